/- Taken from other texts: what is needed of them besides. -/
import Derived.Test.YteinjalnkhfecaaQW2
import Derived.Test.YteinjalnkhfecaaQW3
import Derived.WalkKit
import Derived.Laws.BitsAllLaws
import Derived.Laws.Bits64
import Derived.Laws.Bits64b
import Derived.Lib.ItoaNum
import Derived.ProofKit
import Derived.OpenShut
import Derived.WalkLawsBesides
import Derived.WalkSpells
import Derived.RegionTactic
import Derived.ChangeAlike
import Derived.Outline
import Derived.Laws.Externs
import Derived.Lib.Hide
import Derived.Shelf.Spec.BitsCarry
import Derived.Deep.RegionHeld3
import Derived.Laws.StructEq
import Derived.Deep.DeepCutAuto
import Derived.Deep.RegionWith
import Derived.Deep.CutBlock
import Derived.Deep.QuietTactic
import Derived.BigQuiet
import Derived.ChangeSame
import Derived.Laws.AppendOwn
import Derived.Laws.OwnMore
import Derived.Maps.AppendAt
import Derived.OwnWalk
import Derived.LoopN
import Derived.Lib.QuietBelow
import Derived.StillTailTactics
namespace Go.Proofs.Yteinjalnkhfecaa.Q
open Go.ChangeShapes Go.WideShapes Go.ChangeAt Go.RowKit
set_option linter.unusedVariables false
set_option linter.unusedSimpArgs false
def writeF (d : Bool) (rm : Int) (N : Num) : Nat × Int := if N.cls = 0 then (noughtV d N.minus, 0) else if N.cls = 2 then (infV d N.minus, 0) else roundF d rm N
theorem write_c (d : Bool) (E F : Int) (hd : Lay d E F) (rm : Int) (c : Int) (m : Bool) (x : Int) (h l : Nat) (N : Num) (hN : Hid (IsN c m x h l N)) (hB : Hid (N.cls ≠ 0 → N.cls ≠ 2 → FinC N)) (w : World) :
    Calls Try.prog 82 #[.agg #[.int .i64 E, .int .i64 F], .int .i64 rm, .agg #[.int .i64 c, .bool m, .int .i64 x, .int .u64 h, .int .u64 l]] w (RetP (writeF d rm N) w) := by
  have hc : c = N.cls := hN.out.1
  have hm : m = N.minus := hN.out.2.1
  by_cases h0 : c = 0
  · have HT : Hid (writeF d rm N = (noughtV d m, 0)) := by show _ = _; unfold writeF; rw [if_pos (by omega), hm]
    subst h0; clear hc hm
    go_enter Try.func82, Try.ntmps82
    go_wp2_with fail
    refine (nought_c d E F hd m _).mono ?_
    rintro e w1 ⟨rfl, hb1⟩
    go_wp2_with fail
    go_ret2
    exact retP_mk (by rw [HT.out]) (by rw [HT.out]) (by repeat (first | (with_reducible first | exact Below.refl _ _ | assumption | exact Nat.le_refl _ | refine Below.drew ?_ | refine Below.alloc ?_ ?_ _ | refine Below.setCell ?_ ?_ _ | refine le_alloc ?_ | refine le_set ?_ | refine le_drew ?_ | refine below_step (by assumption) ?_ ?_ | refine le_below (by assumption) ?_) | (dsimp only; omega)))
  · have hb0 : (c == 0) = false := by rw [beq_eq_false_iff_ne]; exact h0
    by_cases h2 : c = 2
    · have HT : Hid (writeF d rm N = (infV d m, 0)) := by show _ = _; unfold writeF; rw [if_neg (by omega), if_pos (by omega), hm]
      subst h2; clear hc hm h0 hb0
      go_enter Try.func82, Try.ntmps82
      go_wp2_with fail
      refine (infinity_c d E F hd m _).mono ?_
      rintro e w1 ⟨rfl, hb1⟩
      go_wp2_with fail
      go_ret2
      exact retP_mk (by rw [HT.out]) (by rw [HT.out]) (by repeat (first | (with_reducible first | exact Below.refl _ _ | assumption | exact Nat.le_refl _ | refine Below.drew ?_ | refine Below.alloc ?_ ?_ _ | refine Below.setCell ?_ ?_ _ | refine le_alloc ?_ | refine le_set ?_ | refine le_drew ?_ | refine below_step (by assumption) ?_ ?_ | refine le_below (by assumption) ?_) | (dsimp only; omega)))
    · have hb2 : (c == 2) = false := by rw [beq_eq_false_iff_ne]; exact h2
      have HT : Hid (writeF d rm N = roundF d rm N) := by show _ = _; unfold writeF; rw [if_neg (by omega), if_neg (by omega)]
      have HB : Hid (FinC N) := hB.out (by omega) (by omega)
      clear hc hm h0 h2
      go_enter Try.func82, Try.ntmps82
      go_wp2_with fail
      refine (round_c d E F hd rm c m x h l N hN HB _).mono ?_
      rintro e w1 ⟨rfl, hb1⟩
      generalize hr : roundF d rm N = r
      have HR := Lib.hid hr; clear hr
      go_wp2_with fail
      go_ret2
      exact retP_mk (by rw [HT.out, HR.out]) (by rw [HT.out, HR.out]) (by repeat (first | (with_reducible first | exact Below.refl _ _ | assumption | exact Nat.le_refl _ | refine Below.drew ?_ | refine Below.alloc ?_ ?_ _ | refine Below.setCell ?_ ?_ _ | refine le_alloc ?_ | refine le_set ?_ | refine le_drew ?_ | refine below_step (by assumption) ?_ ?_ | refine le_below (by assumption) ?_) | (dsimp only; omega)))
theorem blen_fin {N : Num} (h : FinB N) : blen N.mag ≤ 127 := blen_le _ _ h.2.1
theorem total_c (c : Int) (m : Bool) (x : Int) (h l : Nat) (M : Num) (hM : Hid (IsN c m x h l M)) (c' : Int) (m' : Bool) (x' : Int) (h' l' : Nat) (N : Num) (hN : Hid (IsN c' m' x' h' l' N))
    (hc : Hid (M.cls ≤ 1 ∧ N.cls ≤ 1)) (b1 : Hid (M.cls = 1 → FinB M)) (b2 : Hid (N.cls = 1 → FinB N)) (w : World) :
    Calls Try.prog 103 #[.agg #[.int .i64 c, .bool m, .int .i64 x, .int .u64 h, .int .u64 l], .agg #[.int .i64 c', .bool m', .int .i64 x', .int .u64 h', .int .u64 l']] w (RetN (totalN M N) w) := by
  have e1 : c = M.cls := hM.out.1
  have e2 : c' = N.cls := hN.out.1
  have e3 : x = M.exp := hM.out.2.2.1
  have e4 : x' = N.exp := hN.out.2.2.1
  have hcc := hc.out
  by_cases h0 : c = 0 ∨ c' = 0
  · exact total_0 c m x h l M hM c' m' x' h' l' N hN h0 w
  · obtain rfl : c = 1 := by omega
    obtain rfl : c' = 1 := by omega
    have f1 := b1.out (by omega)
    have f2 := b2.out (by omega)
    have g1 := blen_fin f1
    have g2 := blen_fin f2
    obtain ⟨p1, p2, p3, p4⟩ := f1
    obtain ⟨q1, q2, q3, q4⟩ := f2
    exact total_1 m x h l M hM m' x' h' l' N hN (by omega) (by omega) (by omega) (by omega) p2 q2 p1 q1 (by show (_ : Int) ≤ _; omega) (by show (_ : Int) ≤ _; omega) w
theorem addN_ok {a b : Num} (hc : a.cls = 1) (h1 : 2 ^ 126 ≤ a.mag ∧ a.mag < 2 ^ 127 ∧ 2 ^ 126 ≤ b.mag ∧ b.mag < 2 ^ 127) (h2 : b.exp ≤ a.exp) (h3 : a.exp = b.exp → b.mag ≤ a.mag) (e1 : -10000 ≤ a.exp) (e2 : a.exp ≤ 10000) :
    (addN a b).cls = 0 ∨ ((addN a b).cls = 1 ∧ FinC (addN a b)) := by
  have hs := rsticky_le b.mag (a.exp - b.exp).toNat (by omega) (by omega)
  unfold addN
  generalize hr : rsticky b.mag (a.exp - b.exp).toNat = s at *
  simp only
  split
  · exact .inr ⟨hc, by simp only; omega, by simp only; omega, e1, e2⟩
  · split
    · exact .inl rfl
    · have : s ≤ a.mag := by
        by_cases hx : a.exp = b.exp
        · exact Nat.le_trans hs.1 (h3 hx)
        · have := hs.2 (by omega); omega
      exact .inr ⟨hc, by simp only; omega, by simp only; omega, e1, e2⟩
theorem totalN_ok {M N : Num} (h1 : M.cls ≤ 1) (h2 : N.cls ≤ 1) (b1 : M.cls = 1 → FinB M) (b2 : N.cls = 1 → FinB N) :
    (totalN M N).cls = 0 ∨ ((totalN M N).cls = 1 ∧ FinC (totalN M N)) := by
  have up : ∀ K : Num, K.cls ≤ 1 → (K.cls = 1 → FinB K) → K.cls = 0 ∨ (K.cls = 1 ∧ FinC K) := by
    intro K hk hb
    by_cases h : K.cls = 0
    · exact .inl h
    · have h1 : K.cls = 1 := by omega
      obtain ⟨a, b, c, d⟩ := hb h1
      exact .inr ⟨h1, a, by omega, by omega, by omega⟩
  by_cases hm : M.cls = 0
  · have : totalN M N = N := by unfold totalN; rw [if_pos hm]
    rw [this]; exact up N h2 b2
  · by_cases hn : N.cls = 0
    · have : totalN M N = M := by unfold totalN; rw [if_neg hm, if_pos hn]
      rw [this]; exact up M h1 b1
    · rw [totalN_one hm hn]
      have f1 := b1 (by omega)
      have f2 := b2 (by omega)
      have r1 := raised_mag f1.1 (by decide : 126 ≤ 127) (blen_fin f1)
      have r2 := raised_mag f2.1 (by decide : 126 ≤ 127) (blen_fin f2)
      have x1 : (raisedN M 126).exp = M.exp - (127 - (blen M.mag : Int)) := rfl
      have x2 : (raisedN N 126).exp = N.exp - (127 - (blen N.mag : Int)) := rfl
      have g1 := blen_fin f1
      have g2 := blen_fin f2
      obtain ⟨-, -, p3, p4⟩ := f1
      obtain ⟨-, -, q3, q4⟩ := f2
      have c1 : (raisedN M 126).cls = 1 := by show M.cls = 1; omega
      have c2 : (raisedN N 126).cls = 1 := by show N.cls = 1; omega
      by_cases hs : swapB (raisedN M 126) (raisedN N 126) = true
      · rw [if_pos hs]
        have := of_decide_eq_true hs
        exact addN_ok c2 ⟨r2.2.1, r2.2.2, r1.2.1, r1.2.2⟩ (by omega) (by omega) (by omega) (by omega)
      · rw [if_neg hs]
        have := of_decide_eq_false (Bool.eq_false_iff.2 hs)
        exact addN_ok c1 ⟨r1.2.1, r1.2.2, r2.2.1, r2.2.2⟩ (by omega) (by omega) (by omega) (by omega)
/-- The float of a sum of two numbers, as the code has it. -/
def sumF (d : Bool) (rm : Int) (M N : Num) : Nat × Int :=
  if someV M.cls N.cls then (quietB d, flagV M.cls N.cls)
  else if M.cls = 2 ∧ N.cls = 2 ∧ M.minus ≠ N.minus then (quietB d, 16)
  else if M.cls = 2 then (infV d M.minus, 0)
  else if N.cls = 2 then (infV d N.minus, 0)
  else if M.cls = 0 ∧ N.cls = 0 ∧ M.minus = N.minus then (noughtV d M.minus, 0)
  else if (totalN M N).cls = 0 then (noughtV d (decide (rm = 2)), 0) else writeF d rm (totalN M N)
set_option maxRecDepth 100000 in
set_option maxHeartbeats 4000000 in
theorem sum_c (d : Bool) (E F : Int) (hd : Lay d E F) (rm : Int) (c : Int) (m : Bool) (x : Int) (h l : Nat) (M : Num) (hM : Hid (IsN c m x h l M)) (c' : Int) (m' : Bool) (x' : Int) (h' l' : Nat) (N : Num) (hN : Hid (IsN c' m' x' h' l' N))
    (hc : Hid (M.cls ≤ 4 ∧ N.cls ≤ 4)) (b1 : Hid (M.cls = 1 → FinB M)) (b2 : Hid (N.cls = 1 → FinB N)) (w : World) :
    Calls Try.prog 75 #[.agg #[.int .i64 E, .int .i64 F], .int .i64 rm, .agg #[.int .i64 c, .bool m, .int .i64 x, .int .u64 h, .int .u64 l], .agg #[.int .i64 c', .bool m', .int .i64 x', .int .u64 h', .int .u64 l']] w (RetP (sumF d rm M N) w) := by
  have e1 : Hid (c = M.cls) := hM.out.1
  have e2 : Hid (c' = N.cls) := hN.out.1
  have e3 : Hid (m = M.minus) := hM.out.2.1
  have e4 : Hid (m' = N.minus) := hN.out.2.1
  go_enter Try.func75, Try.ntmps75
  go_wp2_with fail
  refine (noNumbers_2 c m x h l c' m' x' h' l' _ (w.heap.size + 1 + 1 + 1) (by simp only [sz_alloc]; omega) (fun o => World.cell?_alloc_at _ _ _ _ (by simp only [sz_alloc])) ).mono ?_
  rintro e w1 ⟨rfl, hb1⟩
  obtain ⟨hc1, hf1⟩ := bcell hb1; have hz1 := hb1.size; (try simp only [sz_alloc, sz_drew, sz_set] at hz1 hc1 hf1); have l1_0 : w.heap.size < w1.heap.size := (by omega); have n1_0 : ¬ w.heap.size = w1.heap.size := (by omega); have m1_0 : ¬ w1.heap.size = w.heap.size := (by omega); have k1_0 := fun o => hc1 (w.heap.size) o (by omega); have f1_0 := fun o => hf1 (w.heap.size) o (by omega); (try simp (disch := (first | rfl | omega | (simp only [sz_alloc, sz_drew, sz_set]; omega))) only [sz_alloc, sz_drew, sz_set, World.cell?_drew, World.frozen?_drew, World.cell?_alloc_at, World.cell?_alloc_past, World.frozen?_alloc_at, World.frozen?_alloc_past] at k1_0 f1_0); have l1_1 : w.heap.size + 1 < w1.heap.size := (by omega); have n1_1 : ¬ w.heap.size + 1 = w1.heap.size := (by omega); have m1_1 : ¬ w1.heap.size = w.heap.size + 1 := (by omega); have k1_1 := fun o => hc1 (w.heap.size + 1) o (by omega); have f1_1 := fun o => hf1 (w.heap.size + 1) o (by omega); (try simp (disch := (first | rfl | omega | (simp only [sz_alloc, sz_drew, sz_set]; omega))) only [sz_alloc, sz_drew, sz_set, World.cell?_drew, World.frozen?_drew, World.cell?_alloc_at, World.cell?_alloc_past, World.frozen?_alloc_at, World.frozen?_alloc_past] at k1_1 f1_1); have l1_2 : w.heap.size + 1 + 1 < w1.heap.size := (by omega); have n1_2 : ¬ w.heap.size + 1 + 1 = w1.heap.size := (by omega); have m1_2 : ¬ w1.heap.size = w.heap.size + 1 + 1 := (by omega); have k1_2 := fun o => hc1 (w.heap.size + 1 + 1) o (by omega); have f1_2 := fun o => hf1 (w.heap.size + 1 + 1) o (by omega); (try simp (disch := (first | rfl | omega | (simp only [sz_alloc, sz_drew, sz_set]; omega))) only [sz_alloc, sz_drew, sz_set, World.cell?_drew, World.frozen?_drew, World.cell?_alloc_at, World.cell?_alloc_past, World.frozen?_alloc_at, World.frozen?_alloc_past] at k1_2 f1_2)
  clear hc1 hf1
  by_cases hsv : someV c c' = true
  · have HT : Hid (sumF d rm M N = (quietB d, flagV c c')) := by show _ = _; unfold sumF; rw [← e1.out, ← e2.out, if_pos hsv]
    have hfl : Hid (flagV c c' = flagV c c') := rfl
    rw [hsv]
    generalize flagV c c' = fl at *
    clear hsv
    go_wp2_with fail
    refine (quiet_c d E F hd _).mono ?_
    rintro e w2 ⟨rfl, hb2⟩
    go_wp2_with fail
    go_ret2
    exact retP_mk (by rw [HT.out]) (by rw [HT.out]) (by repeat (first | (with_reducible first | exact Below.refl _ _ | assumption | exact Nat.le_refl _ | refine Below.drew ?_ | refine Below.alloc ?_ ?_ _ | refine Below.setCell ?_ ?_ _ | refine le_alloc ?_ | refine le_set ?_ | refine le_drew ?_ | refine below_step (by assumption) ?_ ?_ | refine le_below (by assumption) ?_) | (dsimp only; omega)))
  · have hsv2 : someV c c' = false := Bool.eq_false_iff.2 hsv
    have hlo : Hid (0 ≤ c ∧ c ≤ 2 ∧ 0 ≤ c' ∧ c' ≤ 2) := by
      have h1 := of_decide_eq_false hsv2; have h2 := hc.out; have h3 := e1.out; have h4 := e2.out
      show _ ∧ _; omega
    have HT0 : Hid (sumF d rm M N = if M.cls = 2 ∧ N.cls = 2 ∧ M.minus ≠ N.minus then (quietB d, 16)
      else if M.cls = 2 then (infV d M.minus, 0)
      else if N.cls = 2 then (infV d N.minus, 0)
      else if M.cls = 0 ∧ N.cls = 0 ∧ M.minus = N.minus then (noughtV d M.minus, 0)
      else if (totalN M N).cls = 0 then (noughtV d (decide (rm = 2)), 0) else writeF d rm (totalN M N)) := by
        show _ = _; unfold sumF; rw [← e1.out, ← e2.out, hsv2]; rfl
    rw [hsv2]
    generalize flagV c c' = fl
    clear hsv hsv2
    by_cases h1 : c = 2 ∧ c' = 2 ∧ m ≠ m'
    · have HT : Hid (sumF d rm M N = (quietB d, 16)) := by
        show _ = _; rw [HT0.out, if_pos ⟨by have := e1.out; omega, by have := e2.out; omega, by rw [← e3.out, ← e4.out]; exact h1.2.2⟩]
      obtain ⟨g1, g2, g3⟩ := h1
      subst g1; subst g2
      cases m <;> cases m' <;> first | exact absurd rfl g3 | skip
      all_goals
        clear g3
        go_wp2_with fail
        refine (quiet_c d E F hd _).mono ?_
        rintro e w2 ⟨rfl, hb2⟩
        go_wp2_with fail
        go_ret2
        exact retP_mk (by rw [HT.out]) (by rw [HT.out]) (by repeat (first | (with_reducible first | exact Below.refl _ _ | assumption | exact Nat.le_refl _ | refine Below.drew ?_ | refine Below.alloc ?_ ?_ _ | refine Below.setCell ?_ ?_ _ | refine le_alloc ?_ | refine le_set ?_ | refine le_drew ?_ | refine below_step (by assumption) ?_ ?_ | refine le_below (by assumption) ?_) | (dsimp only; omega)))
    · by_cases h2 : c = 2
      · have HT : Hid (sumF d rm M N = (infV d m, 0)) := by
          show _ = _; rw [HT0.out, if_neg (fun k => h1 ⟨h2, by have := e2.out; omega, by rw [e3.out, e4.out]; exact k.2.2⟩), if_pos (by have := e1.out; omega), e3.out]
        have HH1 := Lib.hid h1; clear h1
        subst h2
        by_cases h3 : c' = 2
        · obtain rfl : m = m' := Classical.byContradiction fun k => HH1.out ⟨rfl, h3, k⟩
          subst h3
          go_wp2_with fail
          refine (infinity_c d E F hd m _).mono ?_
          rintro e w2 ⟨rfl, hb2⟩
          go_wp2_with fail
          go_ret2
          exact retP_mk (by rw [HT.out]) (by rw [HT.out]) (by repeat (first | (with_reducible first | exact Below.refl _ _ | assumption | exact Nat.le_refl _ | refine Below.drew ?_ | refine Below.alloc ?_ ?_ _ | refine Below.setCell ?_ ?_ _ | refine le_alloc ?_ | refine le_set ?_ | refine le_drew ?_ | refine below_step (by assumption) ?_ ?_ | refine le_below (by assumption) ?_) | (dsimp only; omega)))
        · have hb3 : (c' == 2) = false := by rw [beq_eq_false_iff_ne]; exact h3
          clear h3
          go_wp2_with fail
          refine (infinity_c d E F hd m _).mono ?_
          rintro e w2 ⟨rfl, hb2⟩
          go_wp2_with fail
          go_ret2
          exact retP_mk (by rw [HT.out]) (by rw [HT.out]) (by repeat (first | (with_reducible first | exact Below.refl _ _ | assumption | exact Nat.le_refl _ | refine Below.drew ?_ | refine Below.alloc ?_ ?_ _ | refine Below.setCell ?_ ?_ _ | refine le_alloc ?_ | refine le_set ?_ | refine le_drew ?_ | refine below_step (by assumption) ?_ ?_ | refine le_below (by assumption) ?_) | (dsimp only; omega)))
      · have hb2 : (c == 2) = false := by rw [beq_eq_false_iff_ne]; exact h2
        by_cases h3 : c' = 2
        · have HT : Hid (sumF d rm M N = (infV d m', 0)) := by
            show _ = _; rw [HT0.out, if_neg (by have := e1.out; omega), if_neg (by have := e1.out; omega), if_pos (by have := e2.out; omega), e4.out]
          subst h3; clear h1 h2
          go_wp2_with fail
          refine (infinity_c d E F hd m' _).mono ?_
          rintro e w2 ⟨rfl, hbb2⟩
          go_wp2_with fail
          go_ret2
          exact retP_mk (by rw [HT.out]) (by rw [HT.out]) (by repeat (first | (with_reducible first | exact Below.refl _ _ | assumption | exact Nat.le_refl _ | refine Below.drew ?_ | refine Below.alloc ?_ ?_ _ | refine Below.setCell ?_ ?_ _ | refine le_alloc ?_ | refine le_set ?_ | refine le_drew ?_ | refine below_step (by assumption) ?_ ?_ | refine le_below (by assumption) ?_) | (dsimp only; omega)))
        · have hb3 : (c' == 2) = false := by rw [beq_eq_false_iff_ne]; exact h3
          have HT1 : Hid (sumF d rm M N = if M.cls = 0 ∧ N.cls = 0 ∧ M.minus = N.minus then (noughtV d M.minus, 0)
              else if (totalN M N).cls = 0 then (noughtV d (decide (rm = 2)), 0) else writeF d rm (totalN M N)) := by
            show _ = _; rw [HT0.out, if_neg (by have := e1.out; omega), if_neg (by have := e1.out; omega), if_neg (by have := e2.out; omega)]
          by_cases h4 : c = 0 ∧ c' = 0 ∧ m = m'
          · have HT : Hid (sumF d rm M N = (noughtV d m, 0)) := by
              show _ = _; rw [HT1.out, if_pos ⟨by have := e1.out; omega, by have := e2.out; omega, by rw [← e3.out, ← e4.out]; exact h4.2.2⟩, e3.out]
            obtain ⟨g1, g2, g3⟩ := h4
            subst g1; subst g2; subst g3; clear h1 h2 h3 hb2 hb3
            go_wp2_with fail
            refine (nought_c d E F hd m _).mono ?_
            rintro e w2 ⟨rfl, hbb2⟩
            go_wp2_with fail
            go_ret2
            exact retP_mk (by rw [HT.out]) (by rw [HT.out]) (by repeat (first | (with_reducible first | exact Below.refl _ _ | assumption | exact Nat.le_refl _ | refine Below.drew ?_ | refine Below.alloc ?_ ?_ _ | refine Below.setCell ?_ ?_ _ | refine le_alloc ?_ | refine le_set ?_ | refine le_drew ?_ | refine below_step (by assumption) ?_ ?_ | refine le_below (by assumption) ?_) | (dsimp only; omega)))
          · have HT2 : Hid (sumF d rm M N = if (totalN M N).cls = 0 then (noughtV d (decide (rm = 2)), 0) else writeF d rm (totalN M N)) := by
              show _ = _; rw [HT1.out, if_neg (fun k => h4 ⟨by have := e1.out; omega, by have := e2.out; omega, by rw [e3.out, e4.out]; exact k.2.2⟩)]
            have hcc : Hid (M.cls ≤ 1 ∧ N.cls ≤ 1) := by have := hlo.out; have := e1.out; have := e2.out; show _ ∧ _; omega
            have HOK := Lib.hid (totalN_ok hcc.out.1 hcc.out.2 b1.out b2.out)
            clear h1 h2 h3
            go_upto_region 10 with fail
            go_cut [58] (fun s58 wx => s58 = .bool false ∧ wx = w1)
            case first =>
              by_cases g1 : c = 0
              · by_cases g2 : c' = 0
                · have g3 : m ≠ m' := fun k => h4 ⟨g1, g2, k⟩
                  subst g1; subst g2; clear h4
                  cases m <;> cases m' <;> first | exact absurd rfl g3 | skip
                  all_goals
                    clear g3
                    go_wp2_with fail
                    go_meet
                    exact ⟨rfl, rfl⟩
                · have hb5 : (c' == 0) = false := by rw [beq_eq_false_iff_ne]; exact g2
                  subst g1; clear h4 g2
                  go_wp2_with fail
                  go_meet
                  exact ⟨rfl, rfl⟩
              · have hb5 : (c == 0) = false := by rw [beq_eq_false_iff_ne]; exact g1
                clear h4 g1
                go_wp2_with fail
                go_meet
                exact ⟨rfl, rfl⟩
            case rest =>
              obtain ⟨rfl, rfl⟩ := hcut
              clear h4
              go_wp2_with fail
              refine (total_c c m x h l M hM c' m' x' h' l' N hN hcc b1 b2 _).mono ?_
              rintro e w2 ⟨ct, mt, xt, ht, lt, rfl, hIt, hbb2⟩
              obtain ⟨hc2, hf2⟩ := bcell hbb2; have hz2 := hbb2.size; (try simp only [sz_alloc, sz_drew, sz_set] at hz2 hc2 hf2)
              have l2_0 : w.heap.size < w2.heap.size := (by omega); have n2_0 : ¬ w.heap.size = w2.heap.size := (by omega); have m2_0 : ¬ w2.heap.size = w.heap.size := (by omega); have k2_0 := fun o => hc2 (w.heap.size) o (by omega); have f2_0 := fun o => hf2 (w.heap.size) o (by omega); (try simp (disch := (first | rfl | omega | (simp only [sz_alloc, sz_drew, sz_set]; omega))) only [sz_alloc, sz_drew, sz_set, World.cell?_drew, World.frozen?_drew, World.cell?_alloc_at, World.cell?_alloc_past, World.frozen?_alloc_at, World.frozen?_alloc_past, hc1, hf1] at k2_0 f2_0); have l2_1 : w.heap.size + 1 < w2.heap.size := (by omega); have n2_1 : ¬ w.heap.size + 1 = w2.heap.size := (by omega); have m2_1 : ¬ w2.heap.size = w.heap.size + 1 := (by omega); have k2_1 := fun o => hc2 (w.heap.size + 1) o (by omega); have f2_1 := fun o => hf2 (w.heap.size + 1) o (by omega); (try simp (disch := (first | rfl | omega | (simp only [sz_alloc, sz_drew, sz_set]; omega))) only [sz_alloc, sz_drew, sz_set, World.cell?_drew, World.frozen?_drew, World.cell?_alloc_at, World.cell?_alloc_past, World.frozen?_alloc_at, World.frozen?_alloc_past, hc1, hf1] at k2_1 f2_1); have l2_2 : w.heap.size + 1 + 1 < w2.heap.size := (by omega); have n2_2 : ¬ w.heap.size + 1 + 1 = w2.heap.size := (by omega); have m2_2 : ¬ w2.heap.size = w.heap.size + 1 + 1 := (by omega); have k2_2 := fun o => hc2 (w.heap.size + 1 + 1) o (by omega); have f2_2 := fun o => hf2 (w.heap.size + 1 + 1) o (by omega); (try simp (disch := (first | rfl | omega | (simp only [sz_alloc, sz_drew, sz_set]; omega))) only [sz_alloc, sz_drew, sz_set, World.cell?_drew, World.frozen?_drew, World.cell?_alloc_at, World.cell?_alloc_past, World.frozen?_alloc_at, World.frozen?_alloc_past, hc1, hf1] at k2_2 f2_2)
              clear hc2 hf2
              have ect : Hid (ct = (totalN M N).cls) := hIt.out.1
              by_cases g1 : ct = 0
              · have hct : Hid (IsN 0 (rm == 2) xt ht lt ⟨0, rm == 2, xt, (totalN M N).mag⟩) := ⟨rfl, rfl, rfl, hIt.out.2.2.2⟩
                have HT : Hid (sumF d rm M N = writeF d rm ⟨0, rm == 2, xt, (totalN M N).mag⟩) := by
                  show _ = _
                  rw [HT2.out, if_pos (by have := ect.out; omega)]
                  unfold writeF
                  rw [if_pos rfl]
                  simp only
                  congr 2
                subst g1
                go_wp2_with fail
                refine (write_c d E F hd rm 0 (rm == 2) xt ht lt _ hct (fun k => absurd rfl k) _).mono ?_
                rintro e w3 ⟨rfl, hb3⟩
                generalize hr : writeF d rm ⟨0, rm == 2, xt, (totalN M N).mag⟩ = r
                have HR := Lib.hid hr; clear hr
                go_wp2_with fail
                go_ret2
                exact retP_mk (by rw [HT.out, HR.out]) (by rw [HT.out, HR.out]) (by repeat (first | (with_reducible first | exact Below.refl _ _ | assumption | exact Nat.le_refl _ | refine Below.drew ?_ | refine Below.alloc ?_ ?_ _ | refine Below.setCell ?_ ?_ _ | refine le_alloc ?_ | refine le_set ?_ | refine le_drew ?_ | refine below_step (by assumption) ?_ ?_ | refine le_below (by assumption) ?_) | (dsimp only; omega)))
              · have hb6 : (ct == 0) = false := by rw [beq_eq_false_iff_ne]; exact g1
                have HT : Hid (sumF d rm M N = writeF d rm (totalN M N)) := by
                  show _ = _
                  rw [HT2.out, if_neg (by have := ect.out; omega)]
                have HFC : Hid ((totalN M N).cls ≠ 0 → (totalN M N).cls ≠ 2 → FinC (totalN M N)) := by
                  intro k _; rcases HOK.out with h | h; exact absurd h k; exact h.2
                clear g1
                go_wp2_with fail
                refine (write_c d E F hd rm ct mt xt ht lt _ hIt HFC _).mono ?_
                rintro e w3 ⟨rfl, hb3⟩
                generalize hr : writeF d rm (totalN M N) = r
                have HR := Lib.hid hr; clear hr
                go_wp2_with fail
                go_ret2
                exact retP_mk (by rw [HT.out, HR.out]) (by rw [HT.out, HR.out]) (by repeat (first | (with_reducible first | exact Below.refl _ _ | assumption | exact Nat.le_refl _ | refine Below.drew ?_ | refine Below.alloc ?_ ?_ _ | refine Below.setCell ?_ ?_ _ | refine le_alloc ?_ | refine le_set ?_ | refine le_drew ?_ | refine below_step (by assumption) ?_ ?_ | refine le_below (by assumption) ?_) | (dsimp only; omega)))
theorem layoutOf_s (sz : Int) (d : Bool) (hsz : Hid (sz = if d then 8 else 4)) (rm : Int) (h5 : 0 ≤ rm) (h3 : rm < 5) (w : World) :
    Calls Try.prog 74 #[.int .i64 sz, .int .i64 rm] w (fun e w' => ∃ E F : Int, e = .returned (.tuple #[.agg #[.int .i64 E, .int .i64 F], .bool true]) ∧ Hid (Lay d E F) ∧ Below w.heap.size w w') := by
  rw [hsz.out]; exact layoutOf_c d rm h5 h3 w
theorem read_c (d : Bool) (E F : Int) (hd : Hid (Lay d E F)) (a : Nat) (ha : Hid (a < 18446744073709551616)) (w : World) :
    Calls Try.prog 76 #[.agg #[.int .i64 E, .int .i64 F], .int .u64 a] w (RetN (readN d a) w) := by
  rcases hd.out with ⟨rfl, rfl, rfl⟩ | ⟨rfl, rfl, rfl⟩
  · exact read_f a ha w
  · exact read_t a ha w
theorem readN_cls (d : Bool) (a : Nat) : (readN d a).cls ≤ 4 := by
  unfold readN
  simp only
  split
  · simp only; unfold classV; (repeat' split) <;> decide
  · (repeat' split) <;> simp
theorem fracT_pos (d : Bool) : 0 < fracT d := by cases d <;> decide
theorem readN_fin (d : Bool) (a : Nat) (h : (readN d a).cls = 1) : (readN d a).mag ≠ 0 ∧ (readN d a).mag < 2 * fracT d ∧ -1074 ≤ (readN d a).exp ∧ (readN d a).exp ≤ 971 := by
  have hfr : a % fracT d < fracT d := Nat.mod_lt _ (fracT_pos d)
  have hfd : a / fracT d % expT d < expT d := Nat.mod_lt _ (by cases d <;> decide)
  unfold readN at h ⊢
  generalize a % fracT d = fr at *
  generalize a / fracT d % expT d = fd at *
  simp only at h ⊢
  by_cases h1 : fd = expT d - 1
  · rw [if_pos h1] at h
    exfalso; revert h; simp only; unfold classV; (repeat' split) <;> decide
  · rw [if_neg h1] at h ⊢
    by_cases h2 : fd ≠ 0
    · rw [if_pos h2]; simp only
      cases d
      · simp only [expT, bias, fb, fracT, Bool.false_eq_true, if_false] at *; omega
      · simp only [expT, bias, fb, fracT, if_true] at *; omega
    · rw [if_neg h2] at h ⊢
      by_cases h3 : fr ≠ 0
      · rw [if_pos h3]; simp only
        cases d
        · simp only [expT, bias, fb, fracT, Bool.false_eq_true, if_false] at *; omega
        · simp only [expT, bias, fb, fracT, if_true] at *; omega
      · rw [if_neg h3] at h; simp at h
theorem readN_finB (d : Bool) (a : Nat) (h : (readN d a).cls = 1) : FinB (readN d a) := by
  obtain ⟨h1, h2, h3, h4⟩ := readN_fin d a h
  have : 2 * fracT d ≤ 2 ^ 64 := by cases d <;> decide
  exact ⟨h1, by omega, by omega, by omega⟩
set_option maxHeartbeats 2000000 in
theorem Add_c (sz : Int) (d : Bool) (hsz : Hid (sz = if d then 8 else 4)) (rm : Int) (h5 : 0 ≤ rm) (h3 : rm < 5) (a b : Nat) (ha : Hid (a < 18446744073709551616)) (hb : Hid (b < 18446744073709551616)) (w : World) :
    Calls Try.prog 34 #[.int .i64 sz, .int .i64 rm, .int .u64 a, .int .u64 b] w (RetP (sumF d rm (readN d a) (readN d b)) w) := by
  have hcl : Hid ((readN d a).cls ≤ 4 ∧ (readN d b).cls ≤ 4) := ⟨readN_cls d a, readN_cls d b⟩
  go_enter Try.func34, Try.ntmps34
  go_wp2_with fail
  refine (layoutOf_s sz d hsz rm h5 h3 _).mono ?_
  rintro e w1 ⟨E, F, rfl, hd, hb1⟩
  obtain ⟨hc1, hf1⟩ := bcell hb1; have hz1 := hb1.size; (try simp only [sz_alloc, sz_drew, sz_set] at hz1 hc1 hf1)
  go_wp2_with fail
  go_region_held3 (fun w' => w'.cell? ⟨w1.heap.size, 0, none⟩ = some (.int .i64 E) ∧ w'.cell? ⟨w1.heap.size, 1, none⟩ = some (.int .i64 F)) (all_goals (first | (go_keep; done) | (simp (disch := omega) only [cell_set_far]; simp [*])))
    (first
      | (go_at_call_of 76 (Value.int .u64 (a : Int)); refine (read_c d E F hd a ha _).mono ?_; rintro e w2 ⟨ca, ma, xa, h1, l1, rfl, hIa, hb2⟩; obtain ⟨hc2, hf2⟩ := bcell hb2; have hz2 := hb2.size; (try simp only [sz_alloc, sz_drew, sz_set] at hz2 hc2 hf2); have l2_0 : w1.heap.size < w2.heap.size := (by omega); have n2_0 : ¬ w1.heap.size = w2.heap.size := (by omega); have m2_0 : ¬ w2.heap.size = w1.heap.size := (by omega); have k2_0 := fun o => hc2 (w1.heap.size) o (by omega); have f2_0 := fun o => hf2 (w1.heap.size) o (by omega); (try simp (disch := (first | rfl | omega | (simp only [sz_alloc, sz_drew, sz_set]; omega))) only [sz_alloc, sz_drew, sz_set, World.cell?_drew, World.frozen?_drew, World.cell?_alloc_at, World.cell?_alloc_past, World.frozen?_alloc_at, World.frozen?_alloc_past] at k2_0 f2_0))
      | (go_at_call_of 76 (Value.int .u64 (b : Int)); refine (read_c d E F hd b hb _).mono ?_; rintro e w3 ⟨cb, mb, xb, h2, l2, rfl, hIb, hb3⟩; obtain ⟨hc3, hf3⟩ := bcell hb3; have hz3 := hb3.size; (try simp only [sz_alloc, sz_drew, sz_set] at hz3 hc3 hf3); have l3_0 : w1.heap.size < w3.heap.size := (by omega); have n3_0 : ¬ w1.heap.size = w3.heap.size := (by omega); have m3_0 : ¬ w3.heap.size = w1.heap.size := (by omega); have k3_0 := fun o => hc3 (w1.heap.size) o (by omega); have f3_0 := fun o => hf3 (w1.heap.size) o (by omega); (try simp (disch := (first | rfl | omega | (simp only [sz_alloc, sz_drew, sz_set]; omega))) only [sz_alloc, sz_drew, sz_set, World.cell?_drew, World.frozen?_drew, World.cell?_alloc_at, World.cell?_alloc_past, World.frozen?_alloc_at, World.frozen?_alloc_past] at k3_0 f3_0))
      | (go_at_call 75; refine (sum_c d E F hd.out rm _ _ _ _ _ _ hIa _ _ _ _ _ _ hIb hcl (readN_finB d a) (readN_finB d b) _).mono ?_; rintro e w4 ⟨rfl, hb4⟩; obtain ⟨hc4, hf4⟩ := bcell hb4; have hz4 := hb4.size; (try simp only [sz_alloc, sz_drew, sz_set] at hz4 hc4 hf4); have l4_0 : w1.heap.size < w4.heap.size := (by omega); have n4_0 : ¬ w1.heap.size = w4.heap.size := (by omega); have m4_0 : ¬ w4.heap.size = w1.heap.size := (by omega); have k4_0 := fun o => hc4 (w1.heap.size) o (by omega); have f4_0 := fun o => hf4 (w1.heap.size) o (by omega); (try simp (disch := (first | rfl | omega | (simp only [sz_alloc, sz_drew, sz_set]; omega))) only [sz_alloc, sz_drew, sz_set, World.cell?_drew, World.frozen?_drew, World.cell?_alloc_at, World.cell?_alloc_past, World.frozen?_alloc_at, World.frozen?_alloc_past] at k4_0 f4_0)))
  all_goals generalize hr : sumF d rm (readN d a) (readN d b) = r
  all_goals have HR := Lib.hid hr
  all_goals clear hr
  all_goals go_wp2_with fail
  all_goals go_ret2
  all_goals exact retP_mk (by rw [HR.out]) (by rw [HR.out]) (by repeat (first | (with_reducible first | exact Below.refl _ _ | assumption | exact Nat.le_refl _ | refine Below.drew ?_ | refine Below.alloc ?_ ?_ _ | refine Below.setCell ?_ ?_ _ | refine le_alloc ?_ | refine le_set ?_ | refine le_drew ?_ | refine below_step (by assumption) ?_ ?_ | refine le_below (by assumption) ?_) | (dsimp only; omega)))
def xorB (d : Bool) (b : Nat) : Nat := b ^^^ signB d
theorem signB_lt (d : Bool) : signB d < 18446744073709551616 := by cases d <;> decide
theorem xorB_lt {d : Bool} {b : Nat} (h : b < 18446744073709551616) : xorB d b < 18446744073709551616 := by
  unfold xorB; rw [pow64] at *; exact Nat.xor_lt_two_pow h (by rw [← pow64]; exact signB_lt d)
set_option maxHeartbeats 2000000 in
theorem Sub_c (sz : Int) (d : Bool) (hsz : Hid (sz = if d then 8 else 4)) (rm : Int) (h5 : 0 ≤ rm) (h3 : rm < 5) (a b : Nat) (ha : Hid (a < 18446744073709551616)) (hb : Hid (b < 18446744073709551616)) (w : World) :
    Calls Try.prog 35 #[.int .i64 sz, .int .i64 rm, .int .u64 a, .int .u64 b] w (RetP (sumF d rm (readN d a) (readN d (xorB d b))) w) := by
  have hcl : Hid ((readN d a).cls ≤ 4 ∧ (readN d (xorB d b)).cls ≤ 4) := ⟨readN_cls d a, readN_cls d _⟩
  have hX : bits .xor .u64 (b : Int) (signB d : Int) = (xorB d b : Int) := u64_xor_nat b (signB d) hb.out (signB_lt d)
  have hb2 : Hid (xorB d b < 18446744073709551616) := xorB_lt hb.out
  go_enter Try.func35, Try.ntmps35
  go_wp2_with fail
  refine (layoutOf_s sz d hsz rm h5 h3 _).mono ?_
  rintro e w1 ⟨E, F, rfl, hd, hb1⟩
  obtain ⟨hc1, hf1⟩ := bcell hb1; have hz1 := hb1.size; (try simp only [sz_alloc, sz_drew, sz_set] at hz1 hc1 hf1)
  go_wp2_with fail
  go_region_held3 (fun w' => w'.cell? ⟨w1.heap.size, 0, none⟩ = some (.int .i64 E) ∧ w'.cell? ⟨w1.heap.size, 1, none⟩ = some (.int .i64 F)) (all_goals (first | (go_keep; done) | (simp (disch := omega) only [cell_set_far]; simp [*])))
    (first
      | (go_at_call_of 76 (Value.int .u64 (a : Int)); refine (read_c d E F hd a ha _).mono ?_; rintro e w2 ⟨ca, ma, xa, h1, l1, rfl, hIa, hbb2⟩; obtain ⟨hc2, hf2⟩ := bcell hbb2; have hz2 := hbb2.size; (try simp only [sz_alloc, sz_drew, sz_set] at hz2 hc2 hf2); have l2_0 : w1.heap.size < w2.heap.size := (by omega); have n2_0 : ¬ w1.heap.size = w2.heap.size := (by omega); have m2_0 : ¬ w2.heap.size = w1.heap.size := (by omega); have k2_0 := fun o => hc2 (w1.heap.size) o (by omega); have f2_0 := fun o => hf2 (w1.heap.size) o (by omega); (try simp (disch := (first | rfl | omega | (simp only [sz_alloc, sz_drew, sz_set]; omega))) only [sz_alloc, sz_drew, sz_set, World.cell?_drew, World.frozen?_drew, World.cell?_alloc_at, World.cell?_alloc_past, World.frozen?_alloc_at, World.frozen?_alloc_past] at k2_0 f2_0))
      | (go_at_call_of 76 (Value.int .u64 (xorB d b : Int)); refine (read_c d E F hd (xorB d b) hb2 _).mono ?_; rintro e w3 ⟨cb, mb, xb, h2, l2, rfl, hIb, hb3⟩; obtain ⟨hc3, hf3⟩ := bcell hb3; have hz3 := hb3.size; (try simp only [sz_alloc, sz_drew, sz_set] at hz3 hc3 hf3); have l3_0 : w1.heap.size < w3.heap.size := (by omega); have n3_0 : ¬ w1.heap.size = w3.heap.size := (by omega); have m3_0 : ¬ w3.heap.size = w1.heap.size := (by omega); have k3_0 := fun o => hc3 (w1.heap.size) o (by omega); have f3_0 := fun o => hf3 (w1.heap.size) o (by omega); (try simp (disch := (first | rfl | omega | (simp only [sz_alloc, sz_drew, sz_set]; omega))) only [sz_alloc, sz_drew, sz_set, World.cell?_drew, World.frozen?_drew, World.cell?_alloc_at, World.cell?_alloc_past, World.frozen?_alloc_at, World.frozen?_alloc_past] at k3_0 f3_0))
      | (go_at_call 77; refine (sign_c d E F hd.out _).mono ?_; rintro e w5 ⟨rfl, hb5⟩; obtain ⟨hc5, hf5⟩ := bcell hb5; have hz5 := hb5.size; (try simp only [sz_alloc, sz_drew, sz_set] at hz5 hc5 hf5); have l5_0 : w1.heap.size < w5.heap.size := (by omega); have n5_0 : ¬ w1.heap.size = w5.heap.size := (by omega); have m5_0 : ¬ w5.heap.size = w1.heap.size := (by omega); have k5_0 := fun o => hc5 (w1.heap.size) o (by omega); have f5_0 := fun o => hf5 (w1.heap.size) o (by omega); (try simp (disch := (first | rfl | omega | (simp only [sz_alloc, sz_drew, sz_set]; omega))) only [sz_alloc, sz_drew, sz_set, World.cell?_drew, World.frozen?_drew, World.cell?_alloc_at, World.cell?_alloc_past, World.frozen?_alloc_at, World.frozen?_alloc_past] at k5_0 f5_0))
      | (go_at_call 75; refine (sum_c d E F hd.out rm _ _ _ _ _ _ hIa _ _ _ _ _ _ hIb hcl (readN_finB d a) (readN_finB d _) _).mono ?_; rintro e w4 ⟨rfl, hb4⟩; obtain ⟨hc4, hf4⟩ := bcell hb4; have hz4 := hb4.size; (try simp only [sz_alloc, sz_drew, sz_set] at hz4 hc4 hf4); have l4_0 : w1.heap.size < w4.heap.size := (by omega); have n4_0 : ¬ w1.heap.size = w4.heap.size := (by omega); have m4_0 : ¬ w4.heap.size = w1.heap.size := (by omega); have k4_0 := fun o => hc4 (w1.heap.size) o (by omega); have f4_0 := fun o => hf4 (w1.heap.size) o (by omega); (try simp (disch := (first | rfl | omega | (simp only [sz_alloc, sz_drew, sz_set]; omega))) only [sz_alloc, sz_drew, sz_set, World.cell?_drew, World.frozen?_drew, World.cell?_alloc_at, World.cell?_alloc_past, World.frozen?_alloc_at, World.frozen?_alloc_past] at k4_0 f4_0)))
  all_goals generalize hr : sumF d rm (readN d a) (readN d (xorB d b)) = r
  all_goals have HR := Lib.hid hr
  all_goals clear hr
  all_goals go_wp2_with fail
  all_goals go_ret2
  all_goals exact retP_mk (by rw [HR.out]) (by rw [HR.out]) (by repeat (first | (with_reducible first | exact Below.refl _ _ | assumption | exact Nat.le_refl _ | refine Below.drew ?_ | refine Below.alloc ?_ ?_ _ | refine Below.setCell ?_ ?_ _ | refine le_alloc ?_ | refine le_set ?_ | refine le_drew ?_ | refine below_step (by assumption) ?_ ?_ | refine le_below (by assumption) ?_) | (dsimp only; omega)))
/-- The float of a product, as the code has it. -/
def mulF (d : Bool) (rm : Int) (M N : Num) : Nat × Int :=
  if M.cls = 0 ∧ N.cls = 2 ∨ M.cls = 2 ∧ N.cls = 0 then (quietB d, 16)
  else if someV (productN M N).cls 0 then (quietB d, flagV (productN M N).cls 0)
  else writeF d rm (productN M N)
theorem readN_all (d : Bool) (a : Nat) : (readN d a).mag < 18446744073709551616 ∧ -1074 ≤ (readN d a).exp ∧ (readN d a).exp ≤ 971 := by
  by_cases h : (readN d a).cls = 1
  · obtain ⟨h1, h2, h3, h4⟩ := readN_fin d a h
    have : 2 * fracT d ≤ 18446744073709551616 := by cases d <;> decide
    exact ⟨by omega, h3, h4⟩
  · have : (readN d a).mag = 0 ∧ (readN d a).exp = 0 := by
      unfold readN at h ⊢
      simp only at h ⊢
      (repeat' split) <;> simp_all
    omega
theorem productN_cls {M N : Num} (h1 : M.cls ≤ 4) (h2 : N.cls ≤ 4) : (productN M N).cls ≤ 4 := by
  unfold productN
  split
  · simp only; omega
  · split <;> simp
theorem productN_fin {M N : Num} (h1 : M.cls = 1 → FinB M) (h2 : N.cls = 1 → FinB N) (m1 : M.mag < 18446744073709551616) (m2 : N.mag < 18446744073709551616) (h : (productN M N).cls = 1) : FinC (productN M N) := by
  unfold productN at h ⊢
  by_cases g1 : 2 ≤ M.cls ∨ 2 ≤ N.cls
  · rw [if_pos g1] at h; simp only at h; exfalso; omega
  · rw [if_neg g1] at h ⊢
    by_cases g2 : M.cls = 1 ∧ N.cls = 1
    · rw [if_pos g2]
      obtain ⟨a1, -, a3, a4⟩ := h1 g2.1
      obtain ⟨b1, -, b3, b4⟩ := h2 g2.2
      refine ⟨Nat.mul_ne_zero a1 b1, ?_, by simp only; omega, by simp only; omega⟩
      exact Nat.lt_of_lt_of_le (Nat.mul_lt_mul'' m1 m2) (by decide)
    · rw [if_neg g2] at h; simp at h
set_option maxRecDepth 100000 in
set_option maxHeartbeats 8000000 in
theorem Mul_c (sz : Int) (d : Bool) (hsz : Hid (sz = if d then 8 else 4)) (rm : Int) (h5 : 0 ≤ rm) (h3 : rm < 5) (a b : Nat) (ha : Hid (a < 18446744073709551616)) (hb : Hid (b < 18446744073709551616)) (w : World) :
    Calls Try.prog 36 #[.int .i64 sz, .int .i64 rm, .int .u64 a, .int .u64 b] w (RetP (mulF d rm (readN d a) (readN d b)) w) := by
  go_enter Try.func36, Try.ntmps36
  go_wp2_with fail
  refine (layoutOf_s sz d hsz rm h5 h3 _).mono ?_
  rintro e w1 ⟨E, F, rfl, hd, hb1⟩
  obtain ⟨hc1, hf1⟩ := bcell hb1; have hz1 := hb1.size; (try simp only [sz_alloc, sz_drew, sz_set] at hz1 hc1 hf1)
  clear hc1 hf1
  go_upto_region 4 with fail
  go_cut [12, 13] (fun s12 s13 wx => ∃ (p q : Nat) (ca : Int) (ma : Bool) (xa : Int) (h1 l1 : Nat) (cb : Int) (mb : Bool) (xb : Int) (h2 l2 : Nat), s12 = .pointer (some ⟨p, 0, none⟩) ∧ s13 = .pointer (some ⟨q, 0, none⟩) ∧
    Hid (IsN ca ma xa h1 l1 (readN d a)) ∧ Hid (IsN cb mb xb h2 l2 (readN d b)) ∧ At5 wx p ca ma xa h1 l1 ∧ At5 wx q cb mb xb h2 l2 ∧ At2 wx w1.heap.size E F ∧ Below w.heap.size w wx ∧ p < wx.heap.size ∧ q < wx.heap.size ∧ w1.heap.size < wx.heap.size)
  case first =>
    go_region_held3 (fun w' => w'.cell? ⟨w1.heap.size, 0, none⟩ = some (.int .i64 E) ∧ w'.cell? ⟨w1.heap.size, 1, none⟩ = some (.int .i64 F)) (all_goals (first | (go_keep; done) | (simp (disch := omega) only [cell_set_far]; simp [*])))
      (first
        | (go_at_call_of 76 (Value.int .u64 (a : Int)); refine (read_c d E F hd a ha _).mono ?_; rintro e w2 ⟨ca, ma, xa, h1, l1, rfl, hIa, hb2⟩; obtain ⟨hc2, hf2⟩ := bcell hb2; have hz2 := hb2.size; (try simp only [sz_alloc, sz_drew, sz_set] at hz2 hc2 hf2); have l2_0 : w1.heap.size < w2.heap.size := (by omega); have n2_0 : ¬ w1.heap.size = w2.heap.size := (by omega); have m2_0 : ¬ w2.heap.size = w1.heap.size := (by omega); have k2_0 := fun o => hc2 (w1.heap.size) o (by omega); have f2_0 := fun o => hf2 (w1.heap.size) o (by omega); (try simp (disch := (first | rfl | omega | (simp only [sz_alloc, sz_drew, sz_set]; omega))) only [sz_alloc, sz_drew, sz_set, World.cell?_drew, World.frozen?_drew, World.cell?_alloc_at, World.cell?_alloc_past, World.frozen?_alloc_at, World.frozen?_alloc_past] at k2_0 f2_0); (try (have l2_t0 : w1.heap.size + 1 < w2.heap.size := (by omega); have n2_t0 : ¬ w1.heap.size + 1 = w2.heap.size := (by omega); have m2_t0 : ¬ w2.heap.size = w1.heap.size + 1 := (by omega); have k2_t0 := fun o => hc2 (w1.heap.size + 1) o (by omega); have f2_t0 := fun o => hf2 (w1.heap.size + 1) o (by omega); (try simp (disch := (first | rfl | omega | (simp only [sz_alloc, sz_drew, sz_set]; omega))) only [sz_alloc, sz_drew, sz_set, World.cell?_drew, World.frozen?_drew, World.cell?_alloc_at, World.cell?_alloc_past, World.frozen?_alloc_at, World.frozen?_alloc_past, hc3, hf3] at k2_t0 f2_t0))); (try (have l2_t1 : w1.heap.size + 1 + 1 < w2.heap.size := (by omega); have n2_t1 : ¬ w1.heap.size + 1 + 1 = w2.heap.size := (by omega); have m2_t1 : ¬ w2.heap.size = w1.heap.size + 1 + 1 := (by omega); have k2_t1 := fun o => hc2 (w1.heap.size + 1 + 1) o (by omega); have f2_t1 := fun o => hf2 (w1.heap.size + 1 + 1) o (by omega); (try simp (disch := (first | rfl | omega | (simp only [sz_alloc, sz_drew, sz_set]; omega))) only [sz_alloc, sz_drew, sz_set, World.cell?_drew, World.frozen?_drew, World.cell?_alloc_at, World.cell?_alloc_past, World.frozen?_alloc_at, World.frozen?_alloc_past, hc3, hf3] at k2_t1 f2_t1))); (try (have l2_t2 : w3.heap.size < w2.heap.size := (by omega); have n2_t2 : ¬ w3.heap.size = w2.heap.size := (by omega); have m2_t2 : ¬ w2.heap.size = w3.heap.size := (by omega); have k2_t2 := fun o => hc2 (w3.heap.size) o (by omega); have f2_t2 := fun o => hf2 (w3.heap.size) o (by omega); (try simp (disch := (first | rfl | omega | (simp only [sz_alloc, sz_drew, sz_set]; omega))) only [sz_alloc, sz_drew, sz_set, World.cell?_drew, World.frozen?_drew, World.cell?_alloc_at, World.cell?_alloc_past, World.frozen?_alloc_at, World.frozen?_alloc_past, hc3, hf3] at k2_t2 f2_t2))); (try (have l2_t3 : w3.heap.size + 1 < w2.heap.size := (by omega); have n2_t3 : ¬ w3.heap.size + 1 = w2.heap.size := (by omega); have m2_t3 : ¬ w2.heap.size = w3.heap.size + 1 := (by omega); have k2_t3 := fun o => hc2 (w3.heap.size + 1) o (by omega); have f2_t3 := fun o => hf2 (w3.heap.size + 1) o (by omega); (try simp (disch := (first | rfl | omega | (simp only [sz_alloc, sz_drew, sz_set]; omega))) only [sz_alloc, sz_drew, sz_set, World.cell?_drew, World.frozen?_drew, World.cell?_alloc_at, World.cell?_alloc_past, World.frozen?_alloc_at, World.frozen?_alloc_past, hc3, hf3] at k2_t3 f2_t3))))
        | (go_at_call_of 76 (Value.int .u64 (b : Int)); refine (read_c d E F hd b hb _).mono ?_; rintro e w3 ⟨cb, mb, xb, h2, l2, rfl, hIb, hb3⟩; obtain ⟨hc3, hf3⟩ := bcell hb3; have hz3 := hb3.size; (try simp only [sz_alloc, sz_drew, sz_set] at hz3 hc3 hf3); have l3_0 : w1.heap.size < w3.heap.size := (by omega); have n3_0 : ¬ w1.heap.size = w3.heap.size := (by omega); have m3_0 : ¬ w3.heap.size = w1.heap.size := (by omega); have k3_0 := fun o => hc3 (w1.heap.size) o (by omega); have f3_0 := fun o => hf3 (w1.heap.size) o (by omega); (try simp (disch := (first | rfl | omega | (simp only [sz_alloc, sz_drew, sz_set]; omega))) only [sz_alloc, sz_drew, sz_set, World.cell?_drew, World.frozen?_drew, World.cell?_alloc_at, World.cell?_alloc_past, World.frozen?_alloc_at, World.frozen?_alloc_past] at k3_0 f3_0); (try (have l3_t0 : w1.heap.size + 1 < w3.heap.size := (by omega); have n3_t0 : ¬ w1.heap.size + 1 = w3.heap.size := (by omega); have m3_t0 : ¬ w3.heap.size = w1.heap.size + 1 := (by omega); have k3_t0 := fun o => hc3 (w1.heap.size + 1) o (by omega); have f3_t0 := fun o => hf3 (w1.heap.size + 1) o (by omega); (try simp (disch := (first | rfl | omega | (simp only [sz_alloc, sz_drew, sz_set]; omega))) only [sz_alloc, sz_drew, sz_set, World.cell?_drew, World.frozen?_drew, World.cell?_alloc_at, World.cell?_alloc_past, World.frozen?_alloc_at, World.frozen?_alloc_past, hc2, hf2] at k3_t0 f3_t0))); (try (have l3_t1 : w1.heap.size + 1 + 1 < w3.heap.size := (by omega); have n3_t1 : ¬ w1.heap.size + 1 + 1 = w3.heap.size := (by omega); have m3_t1 : ¬ w3.heap.size = w1.heap.size + 1 + 1 := (by omega); have k3_t1 := fun o => hc3 (w1.heap.size + 1 + 1) o (by omega); have f3_t1 := fun o => hf3 (w1.heap.size + 1 + 1) o (by omega); (try simp (disch := (first | rfl | omega | (simp only [sz_alloc, sz_drew, sz_set]; omega))) only [sz_alloc, sz_drew, sz_set, World.cell?_drew, World.frozen?_drew, World.cell?_alloc_at, World.cell?_alloc_past, World.frozen?_alloc_at, World.frozen?_alloc_past, hc2, hf2] at k3_t1 f3_t1))); (try (have l3_t2 : w2.heap.size < w3.heap.size := (by omega); have n3_t2 : ¬ w2.heap.size = w3.heap.size := (by omega); have m3_t2 : ¬ w3.heap.size = w2.heap.size := (by omega); have k3_t2 := fun o => hc3 (w2.heap.size) o (by omega); have f3_t2 := fun o => hf3 (w2.heap.size) o (by omega); (try simp (disch := (first | rfl | omega | (simp only [sz_alloc, sz_drew, sz_set]; omega))) only [sz_alloc, sz_drew, sz_set, World.cell?_drew, World.frozen?_drew, World.cell?_alloc_at, World.cell?_alloc_past, World.frozen?_alloc_at, World.frozen?_alloc_past, hc2, hf2] at k3_t2 f3_t2))); (try (have l3_t3 : w2.heap.size + 1 < w3.heap.size := (by omega); have n3_t3 : ¬ w2.heap.size + 1 = w3.heap.size := (by omega); have m3_t3 : ¬ w3.heap.size = w2.heap.size + 1 := (by omega); have k3_t3 := fun o => hc3 (w2.heap.size + 1) o (by omega); have f3_t3 := fun o => hf3 (w2.heap.size + 1) o (by omega); (try simp (disch := (first | rfl | omega | (simp only [sz_alloc, sz_drew, sz_set]; omega))) only [sz_alloc, sz_drew, sz_set, World.cell?_drew, World.frozen?_drew, World.cell?_alloc_at, World.cell?_alloc_past, World.frozen?_alloc_at, World.frozen?_alloc_past, hc2, hf2] at k3_t3 f3_t3)))))
    all_goals go_wp2_with fail
    all_goals go_meet
    all_goals refine ⟨_, _, ca, ma, xa, h1, l1, cb, mb, xb, h2, l2, rfl, rfl, hIa, hIb, ⟨?_, ?_, ?_, ?_, ?_, ?_⟩, ⟨?_, ?_, ?_, ?_, ?_, ?_⟩, ⟨?_, ?_⟩, (by repeat (first | (with_reducible first | exact Below.refl _ _ | assumption | exact Nat.le_refl _ | refine Below.drew ?_ | refine Below.alloc ?_ ?_ _ | refine Below.setCell ?_ ?_ _ | refine le_alloc ?_ | refine le_set ?_ | refine le_drew ?_ | refine below_step (by assumption) ?_ ?_ | refine le_below (by assumption) ?_) | (dsimp only; omega))), ?_, ?_, ?_⟩
    all_goals (first | (simp only [sz_set, sz_drew, sz_alloc]; omega) | (go_simp; done) | (simp (disch := omega) [*, cell_set_far]; done))
  case rest =>
    obtain ⟨p, q, ca, ma, xa, h1, l1, cb, mb, xb, h2, l2, rfl, rfl, hIa, hIb, ⟨p0, p1, p2, p3, p4, p5⟩, ⟨q0, q1, q2, q3, q4, q5⟩, ⟨t0, t1⟩, hbc, zp, zq, zl⟩ := hcut
    have A1 := Lib.hid (readN_all d a)
    have A2 := Lib.hid (readN_all d b)
    have hca : Hid (ca = (readN d a).cls) := hIa.out.1
    have hcb : Hid (cb = (readN d b).cls) := hIb.out.1
    have x1 : -100000 ≤ xa := by have := A1.out; have := hIa.out.2.2.1; omega
    have x2 : xa ≤ 100000 := by have := A1.out; have := hIa.out.2.2.1; omega
    have x3 : -100000 ≤ xb := by have := A2.out; have := hIb.out.2.2.1; omega
    have x4 : xb ≤ 100000 := by have := A2.out; have := hIb.out.2.2.1; omega
    go_wp2_with fail
    refine (noughtAndInfinity_c ca ma xa h1 l1 cb mb xb h2 l2 _).mono ?_
    rintro e w4 ⟨rfl, hb4⟩
    obtain ⟨hc4, hf4⟩ := bcell hb4; have hz4 := hb4.size
    have k4p := fun o => hc4 p o zp; have k4q := fun o => hc4 q o zq; have k4l := fun o => hc4 w1.heap.size o zl
    have zp4 : p < w4.heap.size := by omega
    have zq4 : q < w4.heap.size := by omega
    have zl4 : w1.heap.size < w4.heap.size := by omega
    clear hc4 hf4
    by_cases hni : ca = 0 ∧ cb = 2 ∨ ca = 2 ∧ cb = 0
    · have HT : Hid (mulF d rm (readN d a) (readN d b) = (quietB d, 16)) := by
        show _ = _; unfold mulF; rw [if_pos (by have := hca.out; have := hcb.out; omega)]
      rw [decide_eq_true hni]; clear hni
      go_wp2_with fail
      refine (quiet_c d E F hd.out _).mono ?_
      rintro e w5 ⟨rfl, hb5⟩
      go_wp2_with fail
      go_ret2
      exact retP_mk (by rw [HT.out]) (by rw [HT.out]) (by repeat (first | (with_reducible first | exact Below.refl _ _ | assumption | exact Nat.le_refl _ | refine Below.drew ?_ | refine Below.alloc ?_ ?_ _ | refine Below.setCell ?_ ?_ _ | refine le_alloc ?_ | refine le_set ?_ | refine le_drew ?_ | refine below_step (by assumption) ?_ ?_ | refine le_below (by assumption) ?_) | (dsimp only; omega)))
    · have HT0 : Hid (mulF d rm (readN d a) (readN d b) = if someV (productN (readN d a) (readN d b)).cls 0 then (quietB d, flagV (productN (readN d a) (readN d b)).cls 0) else writeF d rm (productN (readN d a) (readN d b))) := by
        show _ = _; unfold mulF; rw [if_neg (by have := hca.out; have := hcb.out; omega)]
      rw [decide_eq_false hni]; clear hni
      go_wp2_with fail
      refine (product_c ca ma xa h1 l1 _ hIa cb mb xb h2 l2 _ hIb A1.out.1 A2.out.1 x1 x2 x3 x4 _).mono ?_
      rintro e w5 ⟨cp, mp, xp, h5', l5, rfl, hIp, hb5⟩
      obtain ⟨hc5, hf5⟩ := bcell hb5; have hz5 := hb5.size
      have k5l := fun o => hc5 w1.heap.size o zl4
      have zl5 : w1.heap.size < w5.heap.size := by omega
      clear hc5 hf5
      have hcp : Hid (cp = (productN (readN d a) (readN d b)).cls) := hIp.out.1
      have HPF : Hid ((productN (readN d a) (readN d b)).cls ≤ 4 ∧ ((productN (readN d a) (readN d b)).cls = 1 → FinC (productN (readN d a) (readN d b)))) :=
        ⟨productN_cls (readN_cls d a) (readN_cls d b), productN_fin (readN_finB d a) (readN_finB d b) A1.out.1 A2.out.1⟩
      go_wp2_with fail
      refine (noNumbers_1 cp mp xp h5' l5 _ (w5.heap.size + 1) (by simp only [sz_alloc]; omega) (fun o => World.cell?_alloc_at _ _ _ _ (by simp only [sz_alloc]))).mono ?_
      rintro e w6 ⟨rfl, hb6⟩
      obtain ⟨hc6, hf6⟩ := bcell hb6; have hz6 := hb6.size; (try simp only [sz_alloc, sz_drew, sz_set] at hz6 hc6 hf6); have l6_0 : w1.heap.size < w6.heap.size := (by omega); have n6_0 : ¬ w1.heap.size = w6.heap.size := (by omega); have m6_0 : ¬ w6.heap.size = w1.heap.size := (by omega); have k6_0 := fun o => hc6 (w1.heap.size) o (by omega); have f6_0 := fun o => hf6 (w1.heap.size) o (by omega); (try simp (disch := (first | rfl | omega | (simp only [sz_alloc, sz_drew, sz_set]; omega))) only [sz_alloc, sz_drew, sz_set, World.cell?_drew, World.frozen?_drew, World.cell?_alloc_at, World.cell?_alloc_past, World.frozen?_alloc_at, World.frozen?_alloc_past] at k6_0 f6_0); have l6_1 : w5.heap.size < w6.heap.size := (by omega); have n6_1 : ¬ w5.heap.size = w6.heap.size := (by omega); have m6_1 : ¬ w6.heap.size = w5.heap.size := (by omega); have k6_1 := fun o => hc6 (w5.heap.size) o (by omega); have f6_1 := fun o => hf6 (w5.heap.size) o (by omega); (try simp (disch := (first | rfl | omega | (simp only [sz_alloc, sz_drew, sz_set]; omega))) only [sz_alloc, sz_drew, sz_set, World.cell?_drew, World.frozen?_drew, World.cell?_alloc_at, World.cell?_alloc_past, World.frozen?_alloc_at, World.frozen?_alloc_past] at k6_1 f6_1)
      clear hc6 hf6
      by_cases hsv : someV cp 0 = true
      · have HT : Hid (mulF d rm (readN d a) (readN d b) = (quietB d, flagV cp 0)) := by show _ = _; rw [HT0.out, ← hcp.out, if_pos hsv]
        rw [hsv]
        generalize flagV cp 0 = fl at *
        clear hsv
        go_wp2_with fail
        refine (quiet_c d E F hd.out _).mono ?_
        rintro e w7 ⟨rfl, hb7⟩
        go_wp2_with fail
        go_ret2
        exact retP_mk (by rw [HT.out]) (by rw [HT.out]) (by repeat (first | (with_reducible first | exact Below.refl _ _ | assumption | exact Nat.le_refl _ | refine Below.drew ?_ | refine Below.alloc ?_ ?_ _ | refine Below.setCell ?_ ?_ _ | refine le_alloc ?_ | refine le_set ?_ | refine le_drew ?_ | refine below_step (by assumption) ?_ ?_ | refine le_below (by assumption) ?_) | (dsimp only; omega)))
      · have hsv2 : someV cp 0 = false := Bool.eq_false_iff.2 hsv
        have HT : Hid (mulF d rm (readN d a) (readN d b) = writeF d rm (productN (readN d a) (readN d b))) := by show _ = _; rw [HT0.out, ← hcp.out, hsv2]; rfl
        have HFC : Hid ((productN (readN d a) (readN d b)).cls ≠ 0 → (productN (readN d a) (readN d b)).cls ≠ 2 → FinC (productN (readN d a) (readN d b))) := by
          intro k1 k2
          have h1 := of_decide_eq_false hsv2; have h2 := hcp.out; have h3 := HPF.out.1
          exact HPF.out.2 (by omega)
        rw [hsv2]
        generalize flagV cp 0 = fl
        clear hsv hsv2
        go_wp2_with fail
        refine (write_c d E F hd.out rm cp mp xp h5' l5 _ hIp HFC _).mono ?_
        rintro e w7 ⟨rfl, hb7⟩
        generalize hr : writeF d rm (productN (readN d a) (readN d b)) = r
        have HR := Lib.hid hr; clear hr
        go_wp2_with fail
        go_ret2
        exact retP_mk (by rw [HT.out, HR.out]) (by rw [HT.out, HR.out]) (by repeat (first | (with_reducible first | exact Below.refl _ _ | assumption | exact Nat.le_refl _ | refine Below.drew ?_ | refine Below.alloc ?_ ?_ _ | refine Below.setCell ?_ ?_ _ | refine le_alloc ?_ | refine le_set ?_ | refine le_drew ?_ | refine below_step (by assumption) ?_ ?_ | refine le_below (by assumption) ?_) | (dsimp only; omega)))
end Go.Proofs.Yteinjalnkhfecaa.Q
