/- The contract of Div. -/
import Derived.Test.YthjdeopfbjmmeaaE2
namespace Go.Proofs.Ythjdeopfbjmmeaa
open Go.ChangeShapes Go.WideShapes Go.ChangeAt Go.RowKit
set_option linter.unusedVariables false
set_option linter.unusedSimpArgs false
/-- The float of a quotient, as the code has it. -/
def divF (d : Bool) (rm : Int) (M N : Num) : Nat × Int :=
  if someV M.cls N.cls then (quietB d, flagV M.cls N.cls)
  else if M.cls = N.cls ∧ M.cls ≠ 1 then (quietB d, 16)
  else if M.cls = 2 then (infV d (M.minus != N.minus), 0)
  else if M.cls = 0 ∨ N.cls = 2 then (noughtV d (M.minus != N.minus), 0)
  else if N.cls = 0 then (infV d (M.minus != N.minus), 8)
  else roundF d rm (quotN M N)
/-- What is known of a float that is finite and no nought. -/
def FinR (N : Num) : Prop := N.mag ≠ 0 ∧ N.mag < 18446744073709551616 ∧ -1074 ≤ N.exp ∧ N.exp ≤ 971
theorem readN_finR (d : Bool) (a : Nat) (h : (readN d a).cls = 1) : FinR (readN d a) := by
  obtain ⟨h1, h2, h3, h4⟩ := readN_fin d a h
  exact ⟨h1, (readN_all d a).1, h3, h4⟩
theorem sticky_bd (x : Nat) (b : Bool) : x ≤ stickyN x b ∧ stickyN x b ≤ x + 1 := by
  unfold stickyN; cases b
  · simp only [Bool.false_eq_true, if_false]; omega
  · simp only [if_true]; omega
theorem quotN_fin {M N : Num} (h1 : FinR M) (h2 : FinR N) : FinC (quotN M N) := by
  obtain ⟨a1, a2, a3, a4⟩ := h1
  obtain ⟨b1, b2, b3, b4⟩ := h2
  have c1 := blen_le M.mag 64 (by rw [← pow64]; exact a2)
  have c2 := blen_le N.mag 64 (by rw [← pow64]; exact b2)
  have R1 := raised_mag a1 (by decide : 126 ≤ 127) (by omega)
  have R2 := raised_mag b1 (by decide : 63 ≤ 127) (by omega)
  have e1 : (raisedN M 126).exp = M.exp - (127 - (blen M.mag : Int)) := rfl
  have e2 : (raisedN N 63).exp = N.exp - (64 - (blen N.mag : Int)) := rfl
  have q1 : 4611686018427387904 ≤ (raisedN M 126).mag / (raisedN N 63).mag := by
    rw [Nat.le_div_iff_mul_le (by omega)]; omega
  have q2 : (raisedN M 126).mag / (raisedN N 63).mag < 18446744073709551616 := by
    rw [Nat.div_lt_iff_lt_mul (by omega)]; omega
  have s : shl ((raisedN M 126).mag / (raisedN N 63).mag) 1 = (raisedN M 126).mag / (raisedN N 63).mag * 2 := by
    unfold shl; rw [Nat.mod_eq_of_lt (by omega)]
  have t := sticky_bd (shl ((raisedN M 126).mag / (raisedN N 63).mag) 1) ((raisedN M 126).mag % (raisedN N 63).mag != 0)
  refine ⟨?_, ?_, ?_, ?_⟩
  · show stickyN _ _ ≠ 0; omega
  · show stickyN _ _ < _; omega
  · show _ ≤ (raisedN M 126).exp - (raisedN N 63).exp - 1; omega
  · show (raisedN M 126).exp - (raisedN N 63).exp - 1 ≤ _; omega
theorem divF_of {d : Bool} {rm : Int} {M N : Num} {ca cb : Int} {ma mb : Bool} (h1 : ca = M.cls) (h2 : cb = N.cls) (h3 : ma = M.minus) (h4 : mb = N.minus) (hs : someV ca cb = false) :
    divF d rm M N = if ca = cb ∧ ca ≠ 1 then (quietB d, 16) else if ca = 2 then (infV d (!(ma == mb)), 0) else if ca = 0 ∨ cb = 2 then (noughtV d (!(ma == mb)), 0) else if cb = 0 then (infV d (!(ma == mb)), 8) else roundF d rm (quotN M N) := by
  unfold divF
  rw [← h1, ← h2, hs, h3, h4]
  simp only [Bool.false_eq_true, if_false, bne]
  have e1 : (M.cls = N.cls ∧ M.cls ≠ 1) ↔ (ca = cb ∧ ca ≠ 1) := by omega
  have e2 : M.cls = 2 ↔ ca = 2 := by omega
  have e3 : (M.cls = 0 ∨ N.cls = 2) ↔ (ca = 0 ∨ cb = 2) := by omega
  have e4 : N.cls = 0 ↔ cb = 0 := by omega
  simp only [e1, e2, e3, e4]
theorem blen_int {n k : Nat} (h : n < 2 ^ k) : (blen n : Int) ≤ k := by have := blen_le n k h; omega
set_option maxRecDepth 100000 in
set_option maxHeartbeats 8000000 in
theorem Div_c (sz : Int) (d : Bool) (hsz : Hid (sz = if d then 8 else 4)) (rm : Int) (h5 : 0 ≤ rm) (h3 : rm < 5) (a b : Nat) (ha : Hid (a < 18446744073709551616)) (hb : Hid (b < 18446744073709551616)) (w : World) :
    Calls Try.prog 19 #[.int .i64 sz, .int .i64 rm, .int .u64 a, .int .u64 b] w (RetP (divF d rm (readN d a) (readN d b)) w) := by
  go_enter Try.func19, Try.ntmps19
  go_wp2_with fail
  refine (layoutOf_s sz d hsz rm h5 h3 _).mono ?_
  rintro e w1 ⟨E, F, rfl, hd, hb1⟩
  obtain ⟨hc1, hf1⟩ := bcell hb1; have hz1 := hb1.size; (try simp only [sz_alloc, sz_drew, sz_set] at hz1 hc1 hf1)
  clear hc1 hf1
  go_upto_region 4 with fail
  go_cut [12, 13] (fun s12 s13 wx => ∃ (p q : Nat) (ca : Int) (ma : Bool) (xa : Int) (h1 l1 : Nat) (cb : Int) (mb : Bool) (xb : Int) (h2 l2 : Nat), s12 = .pointer (some ⟨p, 0, none⟩) ∧ s13 = .pointer (some ⟨q, 0, none⟩) ∧
    Hid (IsN ca ma xa h1 l1 (readN d a)) ∧ Hid (IsN cb mb xb h2 l2 (readN d b)) ∧ At5 wx p ca ma xa h1 l1 ∧ At5 wx q cb mb xb h2 l2 ∧ At2 wx w1.heap.size E F ∧ Below w.heap.size w wx ∧ p < wx.heap.size ∧ q < wx.heap.size ∧ w1.heap.size < wx.heap.size)
  case first =>
    go_region_held3 (fun w' => w'.cell? ⟨w1.heap.size, 0, none⟩ = some (.int .i64 E) ∧ w'.cell? ⟨w1.heap.size, 1, none⟩ = some (.int .i64 F)) (all_goals (first | (go_keep; done) | (simp (disch := omega) only [cell_set_far]; simp [*])))
      (first
        | (go_at_call_of 35 (Value.int .u64 (a : Int)); refine (read_c d E F hd a ha _).mono ?_; rintro e w2 ⟨ca, ma, xa, h1, l1, rfl, hIa, hb2⟩; obtain ⟨hc2, hf2⟩ := bcell hb2; have hz2 := hb2.size; (try simp only [sz_alloc, sz_drew, sz_set] at hz2 hc2 hf2); have l2_0 : w1.heap.size < w2.heap.size := (by omega); have n2_0 : ¬ w1.heap.size = w2.heap.size := (by omega); have m2_0 : ¬ w2.heap.size = w1.heap.size := (by omega); have k2_0 := fun o => hc2 (w1.heap.size) o (by omega); have f2_0 := fun o => hf2 (w1.heap.size) o (by omega); (try simp (disch := (first | rfl | omega | (simp only [sz_alloc, sz_drew, sz_set]; omega))) only [sz_alloc, sz_drew, sz_set, World.cell?_drew, World.frozen?_drew, World.cell?_alloc_at, World.cell?_alloc_past, World.frozen?_alloc_at, World.frozen?_alloc_past] at k2_0 f2_0); (try (have l2_t0 : w1.heap.size + 1 < w2.heap.size := (by omega); have n2_t0 : ¬ w1.heap.size + 1 = w2.heap.size := (by omega); have m2_t0 : ¬ w2.heap.size = w1.heap.size + 1 := (by omega); have k2_t0 := fun o => hc2 (w1.heap.size + 1) o (by omega); have f2_t0 := fun o => hf2 (w1.heap.size + 1) o (by omega); (try simp (disch := (first | rfl | omega | (simp only [sz_alloc, sz_drew, sz_set]; omega))) only [sz_alloc, sz_drew, sz_set, World.cell?_drew, World.frozen?_drew, World.cell?_alloc_at, World.cell?_alloc_past, World.frozen?_alloc_at, World.frozen?_alloc_past, hc3, hf3] at k2_t0 f2_t0))); (try (have l2_t1 : w1.heap.size + 1 + 1 < w2.heap.size := (by omega); have n2_t1 : ¬ w1.heap.size + 1 + 1 = w2.heap.size := (by omega); have m2_t1 : ¬ w2.heap.size = w1.heap.size + 1 + 1 := (by omega); have k2_t1 := fun o => hc2 (w1.heap.size + 1 + 1) o (by omega); have f2_t1 := fun o => hf2 (w1.heap.size + 1 + 1) o (by omega); (try simp (disch := (first | rfl | omega | (simp only [sz_alloc, sz_drew, sz_set]; omega))) only [sz_alloc, sz_drew, sz_set, World.cell?_drew, World.frozen?_drew, World.cell?_alloc_at, World.cell?_alloc_past, World.frozen?_alloc_at, World.frozen?_alloc_past, hc3, hf3] at k2_t1 f2_t1))); (try (have l2_t2 : w3.heap.size < w2.heap.size := (by omega); have n2_t2 : ¬ w3.heap.size = w2.heap.size := (by omega); have m2_t2 : ¬ w2.heap.size = w3.heap.size := (by omega); have k2_t2 := fun o => hc2 (w3.heap.size) o (by omega); have f2_t2 := fun o => hf2 (w3.heap.size) o (by omega); (try simp (disch := (first | rfl | omega | (simp only [sz_alloc, sz_drew, sz_set]; omega))) only [sz_alloc, sz_drew, sz_set, World.cell?_drew, World.frozen?_drew, World.cell?_alloc_at, World.cell?_alloc_past, World.frozen?_alloc_at, World.frozen?_alloc_past, hc3, hf3] at k2_t2 f2_t2))); (try (have l2_t3 : w3.heap.size + 1 < w2.heap.size := (by omega); have n2_t3 : ¬ w3.heap.size + 1 = w2.heap.size := (by omega); have m2_t3 : ¬ w2.heap.size = w3.heap.size + 1 := (by omega); have k2_t3 := fun o => hc2 (w3.heap.size + 1) o (by omega); have f2_t3 := fun o => hf2 (w3.heap.size + 1) o (by omega); (try simp (disch := (first | rfl | omega | (simp only [sz_alloc, sz_drew, sz_set]; omega))) only [sz_alloc, sz_drew, sz_set, World.cell?_drew, World.frozen?_drew, World.cell?_alloc_at, World.cell?_alloc_past, World.frozen?_alloc_at, World.frozen?_alloc_past, hc3, hf3] at k2_t3 f2_t3))))
        | (go_at_call_of 35 (Value.int .u64 (b : Int)); refine (read_c d E F hd b hb _).mono ?_; rintro e w3 ⟨cb, mb, xb, h2, l2, rfl, hIb, hb3⟩; obtain ⟨hc3, hf3⟩ := bcell hb3; have hz3 := hb3.size; (try simp only [sz_alloc, sz_drew, sz_set] at hz3 hc3 hf3); have l3_0 : w1.heap.size < w3.heap.size := (by omega); have n3_0 : ¬ w1.heap.size = w3.heap.size := (by omega); have m3_0 : ¬ w3.heap.size = w1.heap.size := (by omega); have k3_0 := fun o => hc3 (w1.heap.size) o (by omega); have f3_0 := fun o => hf3 (w1.heap.size) o (by omega); (try simp (disch := (first | rfl | omega | (simp only [sz_alloc, sz_drew, sz_set]; omega))) only [sz_alloc, sz_drew, sz_set, World.cell?_drew, World.frozen?_drew, World.cell?_alloc_at, World.cell?_alloc_past, World.frozen?_alloc_at, World.frozen?_alloc_past] at k3_0 f3_0); (try (have l3_t0 : w1.heap.size + 1 < w3.heap.size := (by omega); have n3_t0 : ¬ w1.heap.size + 1 = w3.heap.size := (by omega); have m3_t0 : ¬ w3.heap.size = w1.heap.size + 1 := (by omega); have k3_t0 := fun o => hc3 (w1.heap.size + 1) o (by omega); have f3_t0 := fun o => hf3 (w1.heap.size + 1) o (by omega); (try simp (disch := (first | rfl | omega | (simp only [sz_alloc, sz_drew, sz_set]; omega))) only [sz_alloc, sz_drew, sz_set, World.cell?_drew, World.frozen?_drew, World.cell?_alloc_at, World.cell?_alloc_past, World.frozen?_alloc_at, World.frozen?_alloc_past, hc2, hf2] at k3_t0 f3_t0))); (try (have l3_t1 : w1.heap.size + 1 + 1 < w3.heap.size := (by omega); have n3_t1 : ¬ w1.heap.size + 1 + 1 = w3.heap.size := (by omega); have m3_t1 : ¬ w3.heap.size = w1.heap.size + 1 + 1 := (by omega); have k3_t1 := fun o => hc3 (w1.heap.size + 1 + 1) o (by omega); have f3_t1 := fun o => hf3 (w1.heap.size + 1 + 1) o (by omega); (try simp (disch := (first | rfl | omega | (simp only [sz_alloc, sz_drew, sz_set]; omega))) only [sz_alloc, sz_drew, sz_set, World.cell?_drew, World.frozen?_drew, World.cell?_alloc_at, World.cell?_alloc_past, World.frozen?_alloc_at, World.frozen?_alloc_past, hc2, hf2] at k3_t1 f3_t1))); (try (have l3_t2 : w2.heap.size < w3.heap.size := (by omega); have n3_t2 : ¬ w2.heap.size = w3.heap.size := (by omega); have m3_t2 : ¬ w3.heap.size = w2.heap.size := (by omega); have k3_t2 := fun o => hc3 (w2.heap.size) o (by omega); have f3_t2 := fun o => hf3 (w2.heap.size) o (by omega); (try simp (disch := (first | rfl | omega | (simp only [sz_alloc, sz_drew, sz_set]; omega))) only [sz_alloc, sz_drew, sz_set, World.cell?_drew, World.frozen?_drew, World.cell?_alloc_at, World.cell?_alloc_past, World.frozen?_alloc_at, World.frozen?_alloc_past, hc2, hf2] at k3_t2 f3_t2))); (try (have l3_t3 : w2.heap.size + 1 < w3.heap.size := (by omega); have n3_t3 : ¬ w2.heap.size + 1 = w3.heap.size := (by omega); have m3_t3 : ¬ w3.heap.size = w2.heap.size + 1 := (by omega); have k3_t3 := fun o => hc3 (w2.heap.size + 1) o (by omega); have f3_t3 := fun o => hf3 (w2.heap.size + 1) o (by omega); (try simp (disch := (first | rfl | omega | (simp only [sz_alloc, sz_drew, sz_set]; omega))) only [sz_alloc, sz_drew, sz_set, World.cell?_drew, World.frozen?_drew, World.cell?_alloc_at, World.cell?_alloc_past, World.frozen?_alloc_at, World.frozen?_alloc_past, hc2, hf2] at k3_t3 f3_t3)))))
    all_goals go_wp2_with fail
    all_goals go_meet
    all_goals refine ⟨_, _, ca, ma, xa, h1, l1, cb, mb, xb, h2, l2, rfl, rfl, hIa, hIb, ⟨?_, ?_, ?_, ?_, ?_, ?_⟩, ⟨?_, ?_, ?_, ?_, ?_, ?_⟩, ⟨?_, ?_⟩, (by repeat (first | (with_reducible first | exact Below.refl _ _ | assumption | exact Nat.le_refl _ | refine Below.drew ?_ | refine Below.alloc ?_ ?_ _ | refine Below.setCell ?_ ?_ _ | refine le_alloc ?_ | refine le_set ?_ | refine le_drew ?_ | refine below_step (by assumption) ?_ ?_ | refine le_below (by assumption) ?_) | (dsimp only; omega))), ?_, ?_, ?_⟩
    all_goals (first | (simp only [sz_set, sz_drew, sz_alloc]; omega) | (go_simp; done) | (simp (disch := omega) [*, cell_set_far]; done))
  case rest =>
    obtain ⟨p, q, ca, ma, xa, h1, l1, cb, mb, xb, h2, l2, rfl, rfl, hIa, hIb, ⟨p0, p1, p2, p3, p4, p5⟩, ⟨q0, q1, q2, q3, q4, q5⟩, ⟨t0, t1⟩, hbc, zp, zq, zl⟩ := hcut
    have A1 := Lib.hid (readN_finR d a)
    have A2 := Lib.hid (readN_finR d b)
    have L1 := Lib.hid (readN_cls d a)
    have L2 := Lib.hid (readN_cls d b)
    have hca : Hid (ca = (readN d a).cls) := hIa.out.1
    have hcb : Hid (cb = (readN d b).cls) := hIb.out.1
    have hma : Hid (ma = (readN d a).minus) := hIa.out.2.1
    have hmb : Hid (mb = (readN d b).minus) := hIb.out.2.1
    generalize readN d a = M at *
    generalize readN d b = N at *
    go_wp2_with fail
    refine (noNumbers_2 ca ma xa h1 l1 cb mb xb h2 l2 _ _ (by simp only [sz_alloc]; omega) (fun o => World.cell?_alloc_at _ _ _ _ rfl)).mono ?_
    rintro e w4 ⟨rfl, hb4⟩
    obtain ⟨hc4, hf4⟩ := bcell hb4; have hz4 := hb4.size; (try simp only [sz_alloc, sz_drew, sz_set] at hz4 hc4 hf4)
    have l4_0 : p < w4.heap.size := (by omega); have n4_0 : ¬ p = w4.heap.size := (by omega); have m4_0 : ¬ w4.heap.size = p := (by omega); have k4_0 := fun o => hc4 (p) o (by omega); have f4_0 := fun o => hf4 (p) o (by omega); (try simp (disch := (first | rfl | omega | (simp only [sz_alloc, sz_drew, sz_set]; omega))) only [sz_alloc, sz_drew, sz_set, World.cell?_drew, World.frozen?_drew, World.cell?_alloc_at, World.cell?_alloc_past, World.frozen?_alloc_at, World.frozen?_alloc_past] at k4_0 f4_0); have l4_1 : q < w4.heap.size := (by omega); have n4_1 : ¬ q = w4.heap.size := (by omega); have m4_1 : ¬ w4.heap.size = q := (by omega); have k4_1 := fun o => hc4 (q) o (by omega); have f4_1 := fun o => hf4 (q) o (by omega); (try simp (disch := (first | rfl | omega | (simp only [sz_alloc, sz_drew, sz_set]; omega))) only [sz_alloc, sz_drew, sz_set, World.cell?_drew, World.frozen?_drew, World.cell?_alloc_at, World.cell?_alloc_past, World.frozen?_alloc_at, World.frozen?_alloc_past] at k4_1 f4_1); have l4_2 : w1.heap.size < w4.heap.size := (by omega); have n4_2 : ¬ w1.heap.size = w4.heap.size := (by omega); have m4_2 : ¬ w4.heap.size = w1.heap.size := (by omega); have k4_2 := fun o => hc4 (w1.heap.size) o (by omega); have f4_2 := fun o => hf4 (w1.heap.size) o (by omega); (try simp (disch := (first | rfl | omega | (simp only [sz_alloc, sz_drew, sz_set]; omega))) only [sz_alloc, sz_drew, sz_set, World.cell?_drew, World.frozen?_drew, World.cell?_alloc_at, World.cell?_alloc_past, World.frozen?_alloc_at, World.frozen?_alloc_past] at k4_2 f4_2)
    clear hc4 hf4
    by_cases hsv : someV ca cb = true
    · have HT : Hid (divF d rm M N = (quietB d, flagV ca cb)) := by show _ = _; unfold divF; rw [← hca.out, ← hcb.out, if_pos hsv]
      rw [hsv]
      generalize flagV ca cb = fl at *
      clear hsv
      go_wp2_with fail
      refine (quiet_c d E F hd.out _).mono ?_
      rintro e w5 ⟨rfl, hb5⟩
      go_wp2_with fail
      go_ret2
      exact retP_mk (by rw [HT.out]) (by rw [HT.out]) (by repeat (first | (with_reducible first | exact Below.refl _ _ | assumption | exact Nat.le_refl _ | refine Below.drew ?_ | refine Below.alloc ?_ ?_ _ | refine Below.setCell ?_ ?_ _ | refine le_alloc ?_ | refine le_set ?_ | refine le_drew ?_ | refine below_step (by assumption) ?_ ?_ | refine le_below (by assumption) ?_) | (dsimp only; omega)))
    · have hsv2 : someV ca cb = false := Bool.eq_false_iff.2 hsv
      have hlo : (ca = 0 ∨ ca = 1 ∨ ca = 2) ∧ (cb = 0 ∨ cb = 1 ∨ cb = 2) := by
        have h1 := of_decide_eq_false hsv2; have h2 := L1.out; have h3 := L2.out; have h4 := hca.out; have h5 := hcb.out
        omega
      have HT0 : Hid (divF d rm M N = if ca = cb ∧ ca ≠ 1 then (quietB d, 16) else if ca = 2 then (infV d (!(ma == mb)), 0) else if ca = 0 ∨ cb = 2 then (noughtV d (!(ma == mb)), 0) else if cb = 0 then (infV d (!(ma == mb)), 8) else roundF d rm (quotN M N)) := by
        show _ = _; exact divF_of hca.out hcb.out hma.out hmb.out hsv2
      rw [hsv2]
      generalize flagV ca cb = fl
      clear hsv hsv2
      obtain ⟨o1, o2⟩ := hlo
      rcases o1 with rfl | rfl | rfl <;> rcases o2 with rfl | rfl | rfl
      all_goals go_wp2_with fail
      · have HT : Hid (divF d rm M N = (quietB d, 16)) := by show _ = _; rw [HT0.out]; simp
        refine (quiet_c d E F hd.out _).mono ?_
        rintro e w5 ⟨rfl, hb5⟩
        go_wp2_with fail
        go_ret2
        exact retP_mk (by rw [HT.out]) (by rw [HT.out]) (by repeat (first | (with_reducible first | exact Below.refl _ _ | assumption | exact Nat.le_refl _ | refine Below.drew ?_ | refine Below.alloc ?_ ?_ _ | refine Below.setCell ?_ ?_ _ | refine le_alloc ?_ | refine le_set ?_ | refine le_drew ?_ | refine below_step (by assumption) ?_ ?_ | refine le_below (by assumption) ?_) | (dsimp only; omega)))
      · have HT : Hid (divF d rm M N = (noughtV d (!(ma == mb)), 0)) := by show _ = _; rw [HT0.out]; simp
        refine (nought_c d E F hd.out _ _).mono ?_
        rintro e w5 ⟨rfl, hb5⟩
        go_wp2_with fail
        go_ret2
        exact retP_mk (by rw [HT.out]) (by rw [HT.out]) (by repeat (first | (with_reducible first | exact Below.refl _ _ | assumption | exact Nat.le_refl _ | refine Below.drew ?_ | refine Below.alloc ?_ ?_ _ | refine Below.setCell ?_ ?_ _ | refine le_alloc ?_ | refine le_set ?_ | refine le_drew ?_ | refine below_step (by assumption) ?_ ?_ | refine le_below (by assumption) ?_) | (dsimp only; omega)))
      · have HT : Hid (divF d rm M N = (noughtV d (!(ma == mb)), 0)) := by show _ = _; rw [HT0.out]; simp
        refine (nought_c d E F hd.out _ _).mono ?_
        rintro e w5 ⟨rfl, hb5⟩
        go_wp2_with fail
        go_ret2
        exact retP_mk (by rw [HT.out]) (by rw [HT.out]) (by repeat (first | (with_reducible first | exact Below.refl _ _ | assumption | exact Nat.le_refl _ | refine Below.drew ?_ | refine Below.alloc ?_ ?_ _ | refine Below.setCell ?_ ?_ _ | refine le_alloc ?_ | refine le_set ?_ | refine le_drew ?_ | refine below_step (by assumption) ?_ ?_ | refine le_below (by assumption) ?_) | (dsimp only; omega)))
      · have HT : Hid (divF d rm M N = (infV d (!(ma == mb)), 8)) := by show _ = _; rw [HT0.out]; simp
        refine (infinity_c d E F hd.out _ _).mono ?_
        rintro e w5 ⟨rfl, hb5⟩
        go_wp2_with fail
        go_ret2
        exact retP_mk (by rw [HT.out]) (by rw [HT.out]) (by repeat (first | (with_reducible first | exact Below.refl _ _ | assumption | exact Nat.le_refl _ | refine Below.drew ?_ | refine Below.alloc ?_ ?_ _ | refine Below.setCell ?_ ?_ _ | refine le_alloc ?_ | refine le_set ?_ | refine le_drew ?_ | refine below_step (by assumption) ?_ ?_ | refine le_below (by assumption) ?_) | (dsimp only; omega)))
      · have HT : Hid (divF d rm M N = roundF d rm (quotN M N)) := by show _ = _; rw [HT0.out]; simp
        have f1 := Lib.hid (A1.out (by have := hca.out; omega))
        have f2 := Lib.hid (A2.out (by have := hcb.out; omega))
        have x1 : -10000 ≤ xa := by have := f1.out.2.2.1; have := hIa.out.2.2.1; omega
        have x2 : xa ≤ 10000 := by have := f1.out.2.2.2; have := hIa.out.2.2.1; omega
        have x3 : -10000 ≤ xb := by have := f2.out.2.2.1; have := hIb.out.2.2.1; omega
        have x4 : xb ≤ 10000 := by have := f2.out.2.2.2; have := hIb.out.2.2.1; omega
        have z1 : Hid (M.mag ≠ 0) := f1.out.1
        have z2 : Hid (N.mag ≠ 0) := f2.out.1
        have y1 : Hid ((blen M.mag : Int) ≤ 126 + 1) := by have := blen_int (k := 64) (by rw [← pow64]; exact f1.out.2.1); show _ ≤ _; omega
        have y2 : Hid ((blen N.mag : Int) ≤ 63 + 1) := by have := blen_int (k := 64) (by rw [← pow64]; exact f2.out.2.1); show _ ≤ _; omega
        have HF : Hid (FinC (quotN M N)) := quotN_fin f1.out f2.out
        clear A1 A2
        go_region_held3 (fun w' => w'.cell? ⟨w1.heap.size, 0, none⟩ = some (.int .i64 E) ∧ w'.cell? ⟨w1.heap.size, 1, none⟩ = some (.int .i64 F) ∧ w'.cell? ⟨p, 0, none⟩ = some (.int .i64 1) ∧ w'.cell? ⟨p, 1, none⟩ = some (.bool ma) ∧ w'.cell? ⟨p, 2, none⟩ = some (.int .i64 xa) ∧ w'.cell? ⟨p, 3, none⟩ = some (.int .u64 h1) ∧ w'.cell? ⟨p, 4, none⟩ = some (.int .u64 l1) ∧
            w'.cell? ⟨q, 0, none⟩ = some (.int .i64 1) ∧ w'.cell? ⟨q, 1, none⟩ = some (.bool mb) ∧ w'.cell? ⟨q, 2, none⟩ = some (.int .i64 xb) ∧ w'.cell? ⟨q, 3, none⟩ = some (.int .u64 h2) ∧ w'.cell? ⟨q, 4, none⟩ = some (.int .u64 l2)) (all_goals (first | (go_keep; done) | (simp (disch := omega) only [cell_set_far]; simp [*])))
          (first
            | (go_at_call 54; refine (quotient_c 1 ma xa h1 l1 M hIa 1 mb xb h2 l2 N hIb x1 x2 x3 x4 z1 z2 y1 y2 _).mono ?_; rintro e w5 ⟨cp, mp, xp, h5', l5, rfl, hIp, hb5⟩; obtain ⟨hc5, hf5⟩ := bcell hb5; have hz5 := hb5.size; (try simp only [sz_alloc, sz_drew, sz_set] at hz5 hc5 hf5); have l5_0 : w1.heap.size < w5.heap.size := (by omega); have n5_0 : ¬ w1.heap.size = w5.heap.size := (by omega); have m5_0 : ¬ w5.heap.size = w1.heap.size := (by omega); have k5_0 := fun o => hc5 (w1.heap.size) o (by omega); have f5_0 := fun o => hf5 (w1.heap.size) o (by omega); (try simp (disch := (first | rfl | omega | (simp only [sz_alloc, sz_drew, sz_set]; omega))) only [sz_alloc, sz_drew, sz_set, World.cell?_drew, World.frozen?_drew, World.cell?_alloc_at, World.cell?_alloc_past, World.frozen?_alloc_at, World.frozen?_alloc_past] at k5_0 f5_0); have l5_1 : p < w5.heap.size := (by omega); have n5_1 : ¬ p = w5.heap.size := (by omega); have m5_1 : ¬ w5.heap.size = p := (by omega); have k5_1 := fun o => hc5 (p) o (by omega); have f5_1 := fun o => hf5 (p) o (by omega); (try simp (disch := (first | rfl | omega | (simp only [sz_alloc, sz_drew, sz_set]; omega))) only [sz_alloc, sz_drew, sz_set, World.cell?_drew, World.frozen?_drew, World.cell?_alloc_at, World.cell?_alloc_past, World.frozen?_alloc_at, World.frozen?_alloc_past] at k5_1 f5_1); have l5_2 : q < w5.heap.size := (by omega); have n5_2 : ¬ q = w5.heap.size := (by omega); have m5_2 : ¬ w5.heap.size = q := (by omega); have k5_2 := fun o => hc5 (q) o (by omega); have f5_2 := fun o => hf5 (q) o (by omega); (try simp (disch := (first | rfl | omega | (simp only [sz_alloc, sz_drew, sz_set]; omega))) only [sz_alloc, sz_drew, sz_set, World.cell?_drew, World.frozen?_drew, World.cell?_alloc_at, World.cell?_alloc_past, World.frozen?_alloc_at, World.frozen?_alloc_past] at k5_2 f5_2))
            | (go_at_call 53; refine (round_c d E F hd.out rm cp mp xp h5' l5 _ hIp HF _).mono ?_; rintro e w6 ⟨rfl, hb6⟩; obtain ⟨hc6, hf6⟩ := bcell hb6; have hz6 := hb6.size; (try simp only [sz_alloc, sz_drew, sz_set] at hz6 hc6 hf6); have l6_0 : w1.heap.size < w6.heap.size := (by omega); have n6_0 : ¬ w1.heap.size = w6.heap.size := (by omega); have m6_0 : ¬ w6.heap.size = w1.heap.size := (by omega); have k6_0 := fun o => hc6 (w1.heap.size) o (by omega); have f6_0 := fun o => hf6 (w1.heap.size) o (by omega); (try simp (disch := (first | rfl | omega | (simp only [sz_alloc, sz_drew, sz_set]; omega))) only [sz_alloc, sz_drew, sz_set, World.cell?_drew, World.frozen?_drew, World.cell?_alloc_at, World.cell?_alloc_past, World.frozen?_alloc_at, World.frozen?_alloc_past] at k6_0 f6_0); have l6_1 : p < w6.heap.size := (by omega); have n6_1 : ¬ p = w6.heap.size := (by omega); have m6_1 : ¬ w6.heap.size = p := (by omega); have k6_1 := fun o => hc6 (p) o (by omega); have f6_1 := fun o => hf6 (p) o (by omega); (try simp (disch := (first | rfl | omega | (simp only [sz_alloc, sz_drew, sz_set]; omega))) only [sz_alloc, sz_drew, sz_set, World.cell?_drew, World.frozen?_drew, World.cell?_alloc_at, World.cell?_alloc_past, World.frozen?_alloc_at, World.frozen?_alloc_past] at k6_1 f6_1); have l6_2 : q < w6.heap.size := (by omega); have n6_2 : ¬ q = w6.heap.size := (by omega); have m6_2 : ¬ w6.heap.size = q := (by omega); have k6_2 := fun o => hc6 (q) o (by omega); have f6_2 := fun o => hf6 (q) o (by omega); (try simp (disch := (first | rfl | omega | (simp only [sz_alloc, sz_drew, sz_set]; omega))) only [sz_alloc, sz_drew, sz_set, World.cell?_drew, World.frozen?_drew, World.cell?_alloc_at, World.cell?_alloc_past, World.frozen?_alloc_at, World.frozen?_alloc_past] at k6_2 f6_2)))
        all_goals generalize hr : roundF d rm (quotN M N) = r
        all_goals have HR := Lib.hid hr
        all_goals clear hr
        all_goals go_wp2_with fail
        all_goals go_ret2
        all_goals exact retP_mk (by rw [HT.out, HR.out]) (by rw [HT.out, HR.out]) (by repeat (first | (with_reducible first | exact Below.refl _ _ | assumption | exact Nat.le_refl _ | refine Below.drew ?_ | refine Below.alloc ?_ ?_ _ | refine Below.setCell ?_ ?_ _ | refine le_alloc ?_ | refine le_set ?_ | refine le_drew ?_ | refine below_step (by assumption) ?_ ?_ | refine le_below (by assumption) ?_) | (dsimp only; omega)))
      · have HT : Hid (divF d rm M N = (noughtV d (!(ma == mb)), 0)) := by show _ = _; rw [HT0.out]; simp
        refine (nought_c d E F hd.out _ _).mono ?_
        rintro e w5 ⟨rfl, hb5⟩
        go_wp2_with fail
        go_ret2
        exact retP_mk (by rw [HT.out]) (by rw [HT.out]) (by repeat (first | (with_reducible first | exact Below.refl _ _ | assumption | exact Nat.le_refl _ | refine Below.drew ?_ | refine Below.alloc ?_ ?_ _ | refine Below.setCell ?_ ?_ _ | refine le_alloc ?_ | refine le_set ?_ | refine le_drew ?_ | refine below_step (by assumption) ?_ ?_ | refine le_below (by assumption) ?_) | (dsimp only; omega)))
      · have HT : Hid (divF d rm M N = (infV d (!(ma == mb)), 0)) := by show _ = _; rw [HT0.out]; simp
        refine (infinity_c d E F hd.out _ _).mono ?_
        rintro e w5 ⟨rfl, hb5⟩
        go_wp2_with fail
        go_ret2
        exact retP_mk (by rw [HT.out]) (by rw [HT.out]) (by repeat (first | (with_reducible first | exact Below.refl _ _ | assumption | exact Nat.le_refl _ | refine Below.drew ?_ | refine Below.alloc ?_ ?_ _ | refine Below.setCell ?_ ?_ _ | refine le_alloc ?_ | refine le_set ?_ | refine le_drew ?_ | refine below_step (by assumption) ?_ ?_ | refine le_below (by assumption) ?_) | (dsimp only; omega)))
      · have HT : Hid (divF d rm M N = (infV d (!(ma == mb)), 0)) := by show _ = _; rw [HT0.out]; simp
        refine (infinity_c d E F hd.out _ _).mono ?_
        rintro e w5 ⟨rfl, hb5⟩
        go_wp2_with fail
        go_ret2
        exact retP_mk (by rw [HT.out]) (by rw [HT.out]) (by repeat (first | (with_reducible first | exact Below.refl _ _ | assumption | exact Nat.le_refl _ | refine Below.drew ?_ | refine Below.alloc ?_ ?_ _ | refine Below.setCell ?_ ?_ _ | refine le_alloc ?_ | refine le_set ?_ | refine le_drew ?_ | refine below_step (by assumption) ?_ ?_ | refine le_below (by assumption) ?_) | (dsimp only; omega)))
      · have HT : Hid (divF d rm M N = (quietB d, 16)) := by show _ = _; rw [HT0.out]; simp
        refine (quiet_c d E F hd.out _).mono ?_
        rintro e w5 ⟨rfl, hb5⟩
        go_wp2_with fail
        go_ret2
        exact retP_mk (by rw [HT.out]) (by rw [HT.out]) (by repeat (first | (with_reducible first | exact Below.refl _ _ | assumption | exact Nat.le_refl _ | refine Below.drew ?_ | refine Below.alloc ?_ ?_ _ | refine Below.setCell ?_ ?_ _ | refine le_alloc ?_ | refine le_set ?_ | refine le_drew ?_ | refine below_step (by assumption) ?_ ?_ | refine le_below (by assumption) ?_) | (dsimp only; omega)))
end Go.Proofs.Ythjdeopfbjmmeaa
