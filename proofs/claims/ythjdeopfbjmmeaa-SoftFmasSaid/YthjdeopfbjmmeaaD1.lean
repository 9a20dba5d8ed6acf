/- The contracts of sums, rounded. -/
import Derived.Test.YthjdeopfbjmmeaaC2
import Derived.Test.YthjdeopfbjmmeaaC3
import Derived.Deep.DeepCutAuto
namespace Go.Proofs.Ythjdeopfbjmmeaa
open Go.ChangeShapes Go.WideShapes Go.ChangeAt Go.RowKit
set_option linter.unusedVariables false
set_option linter.unusedSimpArgs false
/-- What is known of a number that is finite and no nought. -/
def FinB (N : Num) : Prop := N.mag ≠ 0 ∧ N.mag < 2 ^ 127 ∧ -5000 ≤ N.exp ∧ N.exp ≤ 5000
def FinC (N : Num) : Prop := N.mag ≠ 0 ∧ N.mag < 2 ^ 128 ∧ -10000 ≤ N.exp ∧ N.exp ≤ 10000
theorem round_c (d : Bool) (E F : Int) (hd : Lay d E F) (rm : Int) (c : Int) (m : Bool) (x : Int) (h l : Nat) (N : Num) (hN : Hid (IsN c m x h l N)) (hB : Hid (FinC N)) (w : World) :
    Calls Try.prog 53 #[.agg #[.int .i64 E, .int .i64 F], .int .i64 rm, .agg #[.int .i64 c, .bool m, .int .i64 x, .int .u64 h, .int .u64 l]] w (RetP (roundF d rm N) w) := by
  obtain ⟨h1, h2, h3, h4⟩ := hB.out
  have hx : x = N.exp := hN.out.2.2.1
  rcases hd with ⟨rfl, rfl, rfl⟩ | ⟨rfl, rfl, rfl⟩
  · exact round_f rm c m x h l N hN (by omega) (by omega) h1 (blen_le _ _ h2) w
  · exact round_t rm c m x h l N hN (by omega) (by omega) h1 (blen_le _ _ h2) w
def writeF (d : Bool) (rm : Int) (N : Num) : Nat × Int := if N.cls = 0 then (noughtV d N.minus, 0) else if N.cls = 2 then (infV d N.minus, 0) else roundF d rm N
theorem write_c (d : Bool) (E F : Int) (hd : Lay d E F) (rm : Int) (c : Int) (m : Bool) (x : Int) (h l : Nat) (N : Num) (hN : Hid (IsN c m x h l N)) (hB : Hid (N.cls ≠ 0 → N.cls ≠ 2 → FinC N)) (w : World) :
    Calls Try.prog 47 #[.agg #[.int .i64 E, .int .i64 F], .int .i64 rm, .agg #[.int .i64 c, .bool m, .int .i64 x, .int .u64 h, .int .u64 l]] w (RetP (writeF d rm N) w) := by
  have hc : c = N.cls := hN.out.1
  have hm : m = N.minus := hN.out.2.1
  by_cases h0 : c = 0
  · have HT : Hid (writeF d rm N = (noughtV d m, 0)) := by show _ = _; unfold writeF; rw [if_pos (by omega), hm]
    subst h0; clear hc hm
    go_enter Try.func47, Try.ntmps47
    go_wp2_with fail
    refine (nought_c d E F hd m _).mono ?_
    rintro e w1 ⟨rfl, hb1⟩
    go_wp2_with fail
    go_ret2
    exact retP_mk (by rw [HT.out]) (by rw [HT.out]) (by repeat (first | (with_reducible first | exact Below.refl _ _ | assumption | exact Nat.le_refl _ | refine Below.drew ?_ | refine Below.alloc ?_ ?_ _ | refine Below.setCell ?_ ?_ _ | refine le_alloc ?_ | refine le_set ?_ | refine le_drew ?_ | refine below_step (by assumption) ?_ ?_ | refine le_below (by assumption) ?_) | (dsimp only; omega)))
  · have hb0 : (c == 0) = false := by rw [beq_eq_false_iff_ne]; exact h0
    by_cases h2 : c = 2
    · have HT : Hid (writeF d rm N = (infV d m, 0)) := by show _ = _; unfold writeF; rw [if_neg (by omega), if_pos (by omega), hm]
      subst h2; clear hc hm h0 hb0
      go_enter Try.func47, Try.ntmps47
      go_wp2_with fail
      refine (infinity_c d E F hd m _).mono ?_
      rintro e w1 ⟨rfl, hb1⟩
      go_wp2_with fail
      go_ret2
      exact retP_mk (by rw [HT.out]) (by rw [HT.out]) (by repeat (first | (with_reducible first | exact Below.refl _ _ | assumption | exact Nat.le_refl _ | refine Below.drew ?_ | refine Below.alloc ?_ ?_ _ | refine Below.setCell ?_ ?_ _ | refine le_alloc ?_ | refine le_set ?_ | refine le_drew ?_ | refine below_step (by assumption) ?_ ?_ | refine le_below (by assumption) ?_) | (dsimp only; omega)))
    · have hb2 : (c == 2) = false := by rw [beq_eq_false_iff_ne]; exact h2
      have HT : Hid (writeF d rm N = roundF d rm N) := by show _ = _; unfold writeF; rw [if_neg (by omega), if_neg (by omega)]
      have HB : Hid (FinC N) := hB.out (by omega) (by omega)
      clear hc hm h0 h2
      go_enter Try.func47, Try.ntmps47
      go_wp2_with fail
      refine (round_c d E F hd rm c m x h l N hN HB _).mono ?_
      rintro e w1 ⟨rfl, hb1⟩
      generalize hr : roundF d rm N = r
      have HR := Lib.hid hr; clear hr
      go_wp2_with fail
      go_ret2
      exact retP_mk (by rw [HT.out, HR.out]) (by rw [HT.out, HR.out]) (by repeat (first | (with_reducible first | exact Below.refl _ _ | assumption | exact Nat.le_refl _ | refine Below.drew ?_ | refine Below.alloc ?_ ?_ _ | refine Below.setCell ?_ ?_ _ | refine le_alloc ?_ | refine le_set ?_ | refine le_drew ?_ | refine below_step (by assumption) ?_ ?_ | refine le_below (by assumption) ?_) | (dsimp only; omega)))
theorem blen_fin {N : Num} (h : FinB N) : blen N.mag ≤ 127 := blen_le _ _ h.2.1
theorem total_c (c : Int) (m : Bool) (x : Int) (h l : Nat) (M : Num) (hM : Hid (IsN c m x h l M)) (c' : Int) (m' : Bool) (x' : Int) (h' l' : Nat) (N : Num) (hN : Hid (IsN c' m' x' h' l' N))
    (hc : Hid (M.cls ≤ 1 ∧ N.cls ≤ 1)) (b1 : Hid (M.cls = 1 → FinB M)) (b2 : Hid (N.cls = 1 → FinB N)) (w : World) :
    Calls Try.prog 61 #[.agg #[.int .i64 c, .bool m, .int .i64 x, .int .u64 h, .int .u64 l], .agg #[.int .i64 c', .bool m', .int .i64 x', .int .u64 h', .int .u64 l']] w (RetN (totalN M N) w) := by
  have e1 : c = M.cls := hM.out.1
  have e2 : c' = N.cls := hN.out.1
  have e3 : x = M.exp := hM.out.2.2.1
  have e4 : x' = N.exp := hN.out.2.2.1
  have hcc := hc.out
  by_cases h0 : c = 0 ∨ c' = 0
  · exact total_0 c m x h l M hM c' m' x' h' l' N hN h0 w
  · obtain rfl : c = 1 := by omega
    obtain rfl : c' = 1 := by omega
    have f1 := b1.out (by omega)
    have f2 := b2.out (by omega)
    have g1 := blen_fin f1
    have g2 := blen_fin f2
    obtain ⟨p1, p2, p3, p4⟩ := f1
    obtain ⟨q1, q2, q3, q4⟩ := f2
    exact total_1 m x h l M hM m' x' h' l' N hN (by omega) (by omega) (by omega) (by omega) p2 q2 p1 q1 (by show (_ : Int) ≤ _; omega) (by show (_ : Int) ≤ _; omega) w
theorem addN_ok {a b : Num} (hc : a.cls = 1) (h1 : 2 ^ 126 ≤ a.mag ∧ a.mag < 2 ^ 127 ∧ 2 ^ 126 ≤ b.mag ∧ b.mag < 2 ^ 127) (h2 : b.exp ≤ a.exp) (h3 : a.exp = b.exp → b.mag ≤ a.mag) (e1 : -10000 ≤ a.exp) (e2 : a.exp ≤ 10000) :
    (addN a b).cls = 0 ∨ ((addN a b).cls = 1 ∧ FinC (addN a b)) := by
  have hs := rsticky_le b.mag (a.exp - b.exp).toNat (by omega) (by omega)
  unfold addN
  generalize hr : rsticky b.mag (a.exp - b.exp).toNat = s at *
  simp only
  split
  · exact .inr ⟨hc, by simp only; omega, by simp only; omega, e1, e2⟩
  · split
    · exact .inl rfl
    · have : s ≤ a.mag := by
        by_cases hx : a.exp = b.exp
        · exact Nat.le_trans hs.1 (h3 hx)
        · have := hs.2 (by omega); omega
      exact .inr ⟨hc, by simp only; omega, by simp only; omega, e1, e2⟩
theorem totalN_ok {M N : Num} (h1 : M.cls ≤ 1) (h2 : N.cls ≤ 1) (b1 : M.cls = 1 → FinB M) (b2 : N.cls = 1 → FinB N) :
    (totalN M N).cls = 0 ∨ ((totalN M N).cls = 1 ∧ FinC (totalN M N)) := by
  have up : ∀ K : Num, K.cls ≤ 1 → (K.cls = 1 → FinB K) → K.cls = 0 ∨ (K.cls = 1 ∧ FinC K) := by
    intro K hk hb
    by_cases h : K.cls = 0
    · exact .inl h
    · have h1 : K.cls = 1 := by omega
      obtain ⟨a, b, c, d⟩ := hb h1
      exact .inr ⟨h1, a, by omega, by omega, by omega⟩
  by_cases hm : M.cls = 0
  · have : totalN M N = N := by unfold totalN; rw [if_pos hm]
    rw [this]; exact up N h2 b2
  · by_cases hn : N.cls = 0
    · have : totalN M N = M := by unfold totalN; rw [if_neg hm, if_pos hn]
      rw [this]; exact up M h1 b1
    · rw [totalN_one hm hn]
      have f1 := b1 (by omega)
      have f2 := b2 (by omega)
      have r1 := raised_mag f1.1 (by decide : 126 ≤ 127) (blen_fin f1)
      have r2 := raised_mag f2.1 (by decide : 126 ≤ 127) (blen_fin f2)
      have x1 : (raisedN M 126).exp = M.exp - (127 - (blen M.mag : Int)) := rfl
      have x2 : (raisedN N 126).exp = N.exp - (127 - (blen N.mag : Int)) := rfl
      have g1 := blen_fin f1
      have g2 := blen_fin f2
      obtain ⟨-, -, p3, p4⟩ := f1
      obtain ⟨-, -, q3, q4⟩ := f2
      have c1 : (raisedN M 126).cls = 1 := by show M.cls = 1; omega
      have c2 : (raisedN N 126).cls = 1 := by show N.cls = 1; omega
      by_cases hs : swapB (raisedN M 126) (raisedN N 126) = true
      · rw [if_pos hs]
        have := of_decide_eq_true hs
        exact addN_ok c2 ⟨r2.2.1, r2.2.2, r1.2.1, r1.2.2⟩ (by omega) (by omega) (by omega) (by omega)
      · rw [if_neg hs]
        have := of_decide_eq_false (Bool.eq_false_iff.2 hs)
        exact addN_ok c1 ⟨r1.2.1, r1.2.2, r2.2.1, r2.2.2⟩ (by omega) (by omega) (by omega) (by omega)
/-- The float of a sum of two numbers, as the code has it. -/
def sumF (d : Bool) (rm : Int) (M N : Num) : Nat × Int :=
  if someV M.cls N.cls then (quietB d, flagV M.cls N.cls)
  else if M.cls = 2 ∧ N.cls = 2 ∧ M.minus ≠ N.minus then (quietB d, 16)
  else if M.cls = 2 then (infV d M.minus, 0)
  else if N.cls = 2 then (infV d N.minus, 0)
  else if M.cls = 0 ∧ N.cls = 0 ∧ M.minus = N.minus then (noughtV d M.minus, 0)
  else if (totalN M N).cls = 0 then (noughtV d (decide (rm = 2)), 0) else writeF d rm (totalN M N)
set_option maxRecDepth 100000 in
set_option maxHeartbeats 4000000 in
theorem sum_c (d : Bool) (E F : Int) (hd : Lay d E F) (rm : Int) (c : Int) (m : Bool) (x : Int) (h l : Nat) (M : Num) (hM : Hid (IsN c m x h l M)) (c' : Int) (m' : Bool) (x' : Int) (h' l' : Nat) (N : Num) (hN : Hid (IsN c' m' x' h' l' N))
    (hc : Hid (M.cls ≤ 4 ∧ N.cls ≤ 4)) (b1 : Hid (M.cls = 1 → FinB M)) (b2 : Hid (N.cls = 1 → FinB N)) (w : World) :
    Calls Try.prog 34 #[.agg #[.int .i64 E, .int .i64 F], .int .i64 rm, .agg #[.int .i64 c, .bool m, .int .i64 x, .int .u64 h, .int .u64 l], .agg #[.int .i64 c', .bool m', .int .i64 x', .int .u64 h', .int .u64 l']] w (RetP (sumF d rm M N) w) := by
  have e1 : Hid (c = M.cls) := hM.out.1
  have e2 : Hid (c' = N.cls) := hN.out.1
  have e3 : Hid (m = M.minus) := hM.out.2.1
  have e4 : Hid (m' = N.minus) := hN.out.2.1
  go_enter Try.func34, Try.ntmps34
  go_wp2_with fail
  refine (noNumbers_2 c m x h l c' m' x' h' l' _ (w.heap.size + 1 + 1 + 1) (by simp only [sz_alloc]; omega) (fun o => World.cell?_alloc_at _ _ _ _ (by simp only [sz_alloc])) ).mono ?_
  rintro e w1 ⟨rfl, hb1⟩
  obtain ⟨hc1, hf1⟩ := bcell hb1; have hz1 := hb1.size; (try simp only [sz_alloc, sz_drew, sz_set] at hz1 hc1 hf1); have l1_0 : w.heap.size < w1.heap.size := (by omega); have n1_0 : ¬ w.heap.size = w1.heap.size := (by omega); have m1_0 : ¬ w1.heap.size = w.heap.size := (by omega); have k1_0 := fun o => hc1 (w.heap.size) o (by omega); have f1_0 := fun o => hf1 (w.heap.size) o (by omega); (try simp (disch := (first | rfl | omega | (simp only [sz_alloc, sz_drew, sz_set]; omega))) only [sz_alloc, sz_drew, sz_set, World.cell?_drew, World.frozen?_drew, World.cell?_alloc_at, World.cell?_alloc_past, World.frozen?_alloc_at, World.frozen?_alloc_past] at k1_0 f1_0); have l1_1 : w.heap.size + 1 < w1.heap.size := (by omega); have n1_1 : ¬ w.heap.size + 1 = w1.heap.size := (by omega); have m1_1 : ¬ w1.heap.size = w.heap.size + 1 := (by omega); have k1_1 := fun o => hc1 (w.heap.size + 1) o (by omega); have f1_1 := fun o => hf1 (w.heap.size + 1) o (by omega); (try simp (disch := (first | rfl | omega | (simp only [sz_alloc, sz_drew, sz_set]; omega))) only [sz_alloc, sz_drew, sz_set, World.cell?_drew, World.frozen?_drew, World.cell?_alloc_at, World.cell?_alloc_past, World.frozen?_alloc_at, World.frozen?_alloc_past] at k1_1 f1_1); have l1_2 : w.heap.size + 1 + 1 < w1.heap.size := (by omega); have n1_2 : ¬ w.heap.size + 1 + 1 = w1.heap.size := (by omega); have m1_2 : ¬ w1.heap.size = w.heap.size + 1 + 1 := (by omega); have k1_2 := fun o => hc1 (w.heap.size + 1 + 1) o (by omega); have f1_2 := fun o => hf1 (w.heap.size + 1 + 1) o (by omega); (try simp (disch := (first | rfl | omega | (simp only [sz_alloc, sz_drew, sz_set]; omega))) only [sz_alloc, sz_drew, sz_set, World.cell?_drew, World.frozen?_drew, World.cell?_alloc_at, World.cell?_alloc_past, World.frozen?_alloc_at, World.frozen?_alloc_past] at k1_2 f1_2)
  clear hc1 hf1
  by_cases hsv : someV c c' = true
  · have HT : Hid (sumF d rm M N = (quietB d, flagV c c')) := by show _ = _; unfold sumF; rw [← e1.out, ← e2.out, if_pos hsv]
    have hfl : Hid (flagV c c' = flagV c c') := rfl
    rw [hsv]
    generalize flagV c c' = fl at *
    clear hsv
    go_wp2_with fail
    refine (quiet_c d E F hd _).mono ?_
    rintro e w2 ⟨rfl, hb2⟩
    go_wp2_with fail
    go_ret2
    exact retP_mk (by rw [HT.out]) (by rw [HT.out]) (by repeat (first | (with_reducible first | exact Below.refl _ _ | assumption | exact Nat.le_refl _ | refine Below.drew ?_ | refine Below.alloc ?_ ?_ _ | refine Below.setCell ?_ ?_ _ | refine le_alloc ?_ | refine le_set ?_ | refine le_drew ?_ | refine below_step (by assumption) ?_ ?_ | refine le_below (by assumption) ?_) | (dsimp only; omega)))
  · have hsv2 : someV c c' = false := Bool.eq_false_iff.2 hsv
    have hlo : Hid (0 ≤ c ∧ c ≤ 2 ∧ 0 ≤ c' ∧ c' ≤ 2) := by
      have h1 := of_decide_eq_false hsv2; have h2 := hc.out; have h3 := e1.out; have h4 := e2.out
      show _ ∧ _; omega
    have HT0 : Hid (sumF d rm M N = if M.cls = 2 ∧ N.cls = 2 ∧ M.minus ≠ N.minus then (quietB d, 16)
      else if M.cls = 2 then (infV d M.minus, 0)
      else if N.cls = 2 then (infV d N.minus, 0)
      else if M.cls = 0 ∧ N.cls = 0 ∧ M.minus = N.minus then (noughtV d M.minus, 0)
      else if (totalN M N).cls = 0 then (noughtV d (decide (rm = 2)), 0) else writeF d rm (totalN M N)) := by
        show _ = _; unfold sumF; rw [← e1.out, ← e2.out, hsv2]; rfl
    rw [hsv2]
    generalize flagV c c' = fl
    clear hsv hsv2
    by_cases h1 : c = 2 ∧ c' = 2 ∧ m ≠ m'
    · have HT : Hid (sumF d rm M N = (quietB d, 16)) := by
        show _ = _; rw [HT0.out, if_pos ⟨by have := e1.out; omega, by have := e2.out; omega, by rw [← e3.out, ← e4.out]; exact h1.2.2⟩]
      obtain ⟨g1, g2, g3⟩ := h1
      subst g1; subst g2
      cases m <;> cases m' <;> first | exact absurd rfl g3 | skip
      all_goals
        clear g3
        go_wp2_with fail
        refine (quiet_c d E F hd _).mono ?_
        rintro e w2 ⟨rfl, hb2⟩
        go_wp2_with fail
        go_ret2
        exact retP_mk (by rw [HT.out]) (by rw [HT.out]) (by repeat (first | (with_reducible first | exact Below.refl _ _ | assumption | exact Nat.le_refl _ | refine Below.drew ?_ | refine Below.alloc ?_ ?_ _ | refine Below.setCell ?_ ?_ _ | refine le_alloc ?_ | refine le_set ?_ | refine le_drew ?_ | refine below_step (by assumption) ?_ ?_ | refine le_below (by assumption) ?_) | (dsimp only; omega)))
    · by_cases h2 : c = 2
      · have HT : Hid (sumF d rm M N = (infV d m, 0)) := by
          show _ = _; rw [HT0.out, if_neg (fun k => h1 ⟨h2, by have := e2.out; omega, by rw [e3.out, e4.out]; exact k.2.2⟩), if_pos (by have := e1.out; omega), e3.out]
        have HH1 := Lib.hid h1; clear h1
        subst h2
        by_cases h3 : c' = 2
        · obtain rfl : m = m' := Classical.byContradiction fun k => HH1.out ⟨rfl, h3, k⟩
          subst h3
          go_wp2_with fail
          refine (infinity_c d E F hd m _).mono ?_
          rintro e w2 ⟨rfl, hb2⟩
          go_wp2_with fail
          go_ret2
          exact retP_mk (by rw [HT.out]) (by rw [HT.out]) (by repeat (first | (with_reducible first | exact Below.refl _ _ | assumption | exact Nat.le_refl _ | refine Below.drew ?_ | refine Below.alloc ?_ ?_ _ | refine Below.setCell ?_ ?_ _ | refine le_alloc ?_ | refine le_set ?_ | refine le_drew ?_ | refine below_step (by assumption) ?_ ?_ | refine le_below (by assumption) ?_) | (dsimp only; omega)))
        · have hb3 : (c' == 2) = false := by rw [beq_eq_false_iff_ne]; exact h3
          clear h3
          go_wp2_with fail
          refine (infinity_c d E F hd m _).mono ?_
          rintro e w2 ⟨rfl, hb2⟩
          go_wp2_with fail
          go_ret2
          exact retP_mk (by rw [HT.out]) (by rw [HT.out]) (by repeat (first | (with_reducible first | exact Below.refl _ _ | assumption | exact Nat.le_refl _ | refine Below.drew ?_ | refine Below.alloc ?_ ?_ _ | refine Below.setCell ?_ ?_ _ | refine le_alloc ?_ | refine le_set ?_ | refine le_drew ?_ | refine below_step (by assumption) ?_ ?_ | refine le_below (by assumption) ?_) | (dsimp only; omega)))
      · have hb2 : (c == 2) = false := by rw [beq_eq_false_iff_ne]; exact h2
        by_cases h3 : c' = 2
        · have HT : Hid (sumF d rm M N = (infV d m', 0)) := by
            show _ = _; rw [HT0.out, if_neg (by have := e1.out; omega), if_neg (by have := e1.out; omega), if_pos (by have := e2.out; omega), e4.out]
          subst h3; clear h1 h2
          go_wp2_with fail
          refine (infinity_c d E F hd m' _).mono ?_
          rintro e w2 ⟨rfl, hbb2⟩
          go_wp2_with fail
          go_ret2
          exact retP_mk (by rw [HT.out]) (by rw [HT.out]) (by repeat (first | (with_reducible first | exact Below.refl _ _ | assumption | exact Nat.le_refl _ | refine Below.drew ?_ | refine Below.alloc ?_ ?_ _ | refine Below.setCell ?_ ?_ _ | refine le_alloc ?_ | refine le_set ?_ | refine le_drew ?_ | refine below_step (by assumption) ?_ ?_ | refine le_below (by assumption) ?_) | (dsimp only; omega)))
        · have hb3 : (c' == 2) = false := by rw [beq_eq_false_iff_ne]; exact h3
          have HT1 : Hid (sumF d rm M N = if M.cls = 0 ∧ N.cls = 0 ∧ M.minus = N.minus then (noughtV d M.minus, 0)
              else if (totalN M N).cls = 0 then (noughtV d (decide (rm = 2)), 0) else writeF d rm (totalN M N)) := by
            show _ = _; rw [HT0.out, if_neg (by have := e1.out; omega), if_neg (by have := e1.out; omega), if_neg (by have := e2.out; omega)]
          by_cases h4 : c = 0 ∧ c' = 0 ∧ m = m'
          · have HT : Hid (sumF d rm M N = (noughtV d m, 0)) := by
              show _ = _; rw [HT1.out, if_pos ⟨by have := e1.out; omega, by have := e2.out; omega, by rw [← e3.out, ← e4.out]; exact h4.2.2⟩, e3.out]
            obtain ⟨g1, g2, g3⟩ := h4
            subst g1; subst g2; subst g3; clear h1 h2 h3 hb2 hb3
            go_wp2_with fail
            refine (nought_c d E F hd m _).mono ?_
            rintro e w2 ⟨rfl, hbb2⟩
            go_wp2_with fail
            go_ret2
            exact retP_mk (by rw [HT.out]) (by rw [HT.out]) (by repeat (first | (with_reducible first | exact Below.refl _ _ | assumption | exact Nat.le_refl _ | refine Below.drew ?_ | refine Below.alloc ?_ ?_ _ | refine Below.setCell ?_ ?_ _ | refine le_alloc ?_ | refine le_set ?_ | refine le_drew ?_ | refine below_step (by assumption) ?_ ?_ | refine le_below (by assumption) ?_) | (dsimp only; omega)))
          · have HT2 : Hid (sumF d rm M N = if (totalN M N).cls = 0 then (noughtV d (decide (rm = 2)), 0) else writeF d rm (totalN M N)) := by
              show _ = _; rw [HT1.out, if_neg (fun k => h4 ⟨by have := e1.out; omega, by have := e2.out; omega, by rw [e3.out, e4.out]; exact k.2.2⟩)]
            have hcc : Hid (M.cls ≤ 1 ∧ N.cls ≤ 1) := by have := hlo.out; have := e1.out; have := e2.out; show _ ∧ _; omega
            have HOK := Lib.hid (totalN_ok hcc.out.1 hcc.out.2 b1.out b2.out)
            clear h1 h2 h3
            go_upto_region 10 with fail
            go_cut [58] (fun s58 wx => s58 = .bool false ∧ wx = w1)
            case first =>
              by_cases g1 : c = 0
              · by_cases g2 : c' = 0
                · have g3 : m ≠ m' := fun k => h4 ⟨g1, g2, k⟩
                  subst g1; subst g2; clear h4
                  cases m <;> cases m' <;> first | exact absurd rfl g3 | skip
                  all_goals
                    clear g3
                    go_wp2_with fail
                    go_meet
                    exact ⟨rfl, rfl⟩
                · have hb5 : (c' == 0) = false := by rw [beq_eq_false_iff_ne]; exact g2
                  subst g1; clear h4 g2
                  go_wp2_with fail
                  go_meet
                  exact ⟨rfl, rfl⟩
              · have hb5 : (c == 0) = false := by rw [beq_eq_false_iff_ne]; exact g1
                clear h4 g1
                go_wp2_with fail
                go_meet
                exact ⟨rfl, rfl⟩
            case rest =>
              obtain ⟨rfl, rfl⟩ := hcut
              clear h4
              go_wp2_with fail
              refine (total_c c m x h l M hM c' m' x' h' l' N hN hcc b1 b2 _).mono ?_
              rintro e w2 ⟨ct, mt, xt, ht, lt, rfl, hIt, hbb2⟩
              obtain ⟨hc2, hf2⟩ := bcell hbb2; have hz2 := hbb2.size; (try simp only [sz_alloc, sz_drew, sz_set] at hz2 hc2 hf2)
              have l2_0 : w.heap.size < w2.heap.size := (by omega); have n2_0 : ¬ w.heap.size = w2.heap.size := (by omega); have m2_0 : ¬ w2.heap.size = w.heap.size := (by omega); have k2_0 := fun o => hc2 (w.heap.size) o (by omega); have f2_0 := fun o => hf2 (w.heap.size) o (by omega); (try simp (disch := (first | rfl | omega | (simp only [sz_alloc, sz_drew, sz_set]; omega))) only [sz_alloc, sz_drew, sz_set, World.cell?_drew, World.frozen?_drew, World.cell?_alloc_at, World.cell?_alloc_past, World.frozen?_alloc_at, World.frozen?_alloc_past, hc1, hf1] at k2_0 f2_0); have l2_1 : w.heap.size + 1 < w2.heap.size := (by omega); have n2_1 : ¬ w.heap.size + 1 = w2.heap.size := (by omega); have m2_1 : ¬ w2.heap.size = w.heap.size + 1 := (by omega); have k2_1 := fun o => hc2 (w.heap.size + 1) o (by omega); have f2_1 := fun o => hf2 (w.heap.size + 1) o (by omega); (try simp (disch := (first | rfl | omega | (simp only [sz_alloc, sz_drew, sz_set]; omega))) only [sz_alloc, sz_drew, sz_set, World.cell?_drew, World.frozen?_drew, World.cell?_alloc_at, World.cell?_alloc_past, World.frozen?_alloc_at, World.frozen?_alloc_past, hc1, hf1] at k2_1 f2_1); have l2_2 : w.heap.size + 1 + 1 < w2.heap.size := (by omega); have n2_2 : ¬ w.heap.size + 1 + 1 = w2.heap.size := (by omega); have m2_2 : ¬ w2.heap.size = w.heap.size + 1 + 1 := (by omega); have k2_2 := fun o => hc2 (w.heap.size + 1 + 1) o (by omega); have f2_2 := fun o => hf2 (w.heap.size + 1 + 1) o (by omega); (try simp (disch := (first | rfl | omega | (simp only [sz_alloc, sz_drew, sz_set]; omega))) only [sz_alloc, sz_drew, sz_set, World.cell?_drew, World.frozen?_drew, World.cell?_alloc_at, World.cell?_alloc_past, World.frozen?_alloc_at, World.frozen?_alloc_past, hc1, hf1] at k2_2 f2_2)
              clear hc2 hf2
              have ect : Hid (ct = (totalN M N).cls) := hIt.out.1
              by_cases g1 : ct = 0
              · have hct : Hid (IsN 0 (rm == 2) xt ht lt ⟨0, rm == 2, xt, (totalN M N).mag⟩) := ⟨rfl, rfl, rfl, hIt.out.2.2.2⟩
                have HT : Hid (sumF d rm M N = writeF d rm ⟨0, rm == 2, xt, (totalN M N).mag⟩) := by
                  show _ = _
                  rw [HT2.out, if_pos (by have := ect.out; omega)]
                  unfold writeF
                  rw [if_pos rfl]
                  simp only
                  congr 2
                subst g1
                go_wp2_with fail
                refine (write_c d E F hd rm 0 (rm == 2) xt ht lt _ hct (fun k => absurd rfl k) _).mono ?_
                rintro e w3 ⟨rfl, hb3⟩
                generalize hr : writeF d rm ⟨0, rm == 2, xt, (totalN M N).mag⟩ = r
                have HR := Lib.hid hr; clear hr
                go_wp2_with fail
                go_ret2
                exact retP_mk (by rw [HT.out, HR.out]) (by rw [HT.out, HR.out]) (by repeat (first | (with_reducible first | exact Below.refl _ _ | assumption | exact Nat.le_refl _ | refine Below.drew ?_ | refine Below.alloc ?_ ?_ _ | refine Below.setCell ?_ ?_ _ | refine le_alloc ?_ | refine le_set ?_ | refine le_drew ?_ | refine below_step (by assumption) ?_ ?_ | refine le_below (by assumption) ?_) | (dsimp only; omega)))
              · have hb6 : (ct == 0) = false := by rw [beq_eq_false_iff_ne]; exact g1
                have HT : Hid (sumF d rm M N = writeF d rm (totalN M N)) := by
                  show _ = _
                  rw [HT2.out, if_neg (by have := ect.out; omega)]
                have HFC : Hid ((totalN M N).cls ≠ 0 → (totalN M N).cls ≠ 2 → FinC (totalN M N)) := by
                  intro k _; rcases HOK.out with h | h; exact absurd h k; exact h.2
                clear g1
                go_wp2_with fail
                refine (write_c d E F hd rm ct mt xt ht lt _ hIt HFC _).mono ?_
                rintro e w3 ⟨rfl, hb3⟩
                generalize hr : writeF d rm (totalN M N) = r
                have HR := Lib.hid hr; clear hr
                go_wp2_with fail
                go_ret2
                exact retP_mk (by rw [HT.out, HR.out]) (by rw [HT.out, HR.out]) (by repeat (first | (with_reducible first | exact Below.refl _ _ | assumption | exact Nat.le_refl _ | refine Below.drew ?_ | refine Below.alloc ?_ ?_ _ | refine Below.setCell ?_ ?_ _ | refine le_alloc ?_ | refine le_set ?_ | refine le_drew ?_ | refine below_step (by assumption) ?_ ?_ | refine le_below (by assumption) ?_) | (dsimp only; omega)))
end Go.Proofs.Ythjdeopfbjmmeaa
