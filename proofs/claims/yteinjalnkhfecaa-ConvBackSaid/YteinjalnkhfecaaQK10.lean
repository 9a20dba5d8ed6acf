/- Taken from other texts: what is needed of them. -/
import Derived.Test.YteinjalnkhfecaaQA
import Derived.Test.YteinjalnkhfecaaQB
import Derived.Test.YteinjalnkhfecaaQK3
import Derived.Test.YteinjalnkhfecaaQK8
import Derived.Test.YteinjalnkhfecaaQL
namespace Go.Proofs.Yteinjalnkhfecaa.Q
open Go.ChangeShapes Go.WideShapes Go.ChangeAt Go.RowKit
set_option linter.unusedVariables false
set_option linter.unusedSimpArgs false
theorem one_big (w : World) : IsBig (w.alloc (Obj.cells #[.int .u32 1] 36)) w.heap.size 1 1 1 := by
  refine ⟨⟨by rw [sz_alloc]; omega, Nat.le_refl _, fun i hi => ?_, by decide⟩, .inr (by decide)⟩
  obtain rfl : i = 0 := by omega
  rw [World.cell?_alloc_at _ _ _ _ rfl]
  simp [dg, shd]
theorem below_one (w : World) (o : Obj) : Below w.heap.size w (w.alloc o) := (Below.refl w.heap.size w).alloc (Nat.le_refl _) _
theorem plus1_c (g n p A : Nat) (w : World) (h : Hid (IsRaw w g n p A)) (hn : n ≤ 900) :
    Calls Try.prog 92 #[.slice (some ⟨g, 0, none⟩) n p, .slice (some ⟨w.heap.size, 0, none⟩) 1 1] (w.alloc (Obj.cells #[.int .u32 1] 36)) (RetG (A + 1) w) := by
  refine (bplus_c g n p A w.heap.size 1 1 1 _ (Lib.hid (raw_below h.out (below_one w _) (Nat.le_refl _))) (Lib.hid (one_big w).1) hn (by omega)).mono ?_
  intro e w' h2
  exact retG_of h2 (below_one w _) (by rw [sz_alloc]; omega)
theorem up1_c (s : Nat) (w : World) (hs : s ≤ 20000) :
    Calls Try.prog 88 #[.slice (some ⟨w.heap.size, 0, none⟩) 1 1, .int .i64 s] (w.alloc (Obj.cells #[.int .u32 1] 36)) (RetG (2 ^ s) w) := by
  refine (up_c w.heap.size 1 1 1 s _ (Lib.hid (one_big w).1) hs (by omega)).mono ?_
  intro e w' h2
  rw [Nat.one_mul] at h2
  exact retG_of h2 (below_one w _) (by rw [sz_alloc]; omega)
set_option maxHeartbeats 2000000 in
theorem upR_c (rm : Int) (m odd half rest : Bool) (w : World) :
    Calls Try.prog 112 #[.int .i64 rm, .bool m, .bool odd, .bool half, .bool rest] w (RetB (upV rm m odd half rest) w) := by
  have HU : Hid (upV rm m odd half rest = if rm = 0 then half && (rest || odd) else if rm = 2 then m && (half || rest) else if rm = 3 then !m && (half || rest) else if rm = 4 then half else false) := rfl
  by_cases h0 : rm = 0
  · have E : Hid (upV rm m odd half rest = (half && (rest || odd))) := by show _ = _; rw [HU.out, if_pos h0]
    have g0 : (rm == 0) = true := by rw [beq_iff_eq]; exact h0
    clear HU h0
    cases half <;> cases rest <;> cases odd
    all_goals (go_enter Try.func112, Try.ntmps112; go_wp2_with fail; go_ret; exact retB_mk E.out.symm (by repeat (first | (with_reducible first | exact Below.refl _ _ | assumption | exact Nat.le_refl _ | refine Below.drew ?_ | refine Below.alloc ?_ ?_ _ | refine Below.setCell ?_ ?_ _ | refine le_alloc ?_ | refine le_set ?_ | refine le_drew ?_ | refine below_step (by assumption) ?_ ?_ | refine le_below (by assumption) ?_) | (dsimp only; omega))))
  · have g0 : (rm == 0) = false := by rw [beq_eq_false_iff_ne]; exact h0
    by_cases h2 : rm = 2
    · have E : Hid (upV rm m odd half rest = (m && (half || rest))) := by show _ = _; rw [HU.out, if_neg h0, if_pos h2]
      have g2 : (rm == 2) = true := by rw [beq_iff_eq]; exact h2
      clear HU h0 h2
      cases m <;> cases half <;> cases rest
      all_goals (go_enter Try.func112, Try.ntmps112; go_wp2_with fail; go_ret; exact retB_mk E.out.symm (by repeat (first | (with_reducible first | exact Below.refl _ _ | assumption | exact Nat.le_refl _ | refine Below.drew ?_ | refine Below.alloc ?_ ?_ _ | refine Below.setCell ?_ ?_ _ | refine le_alloc ?_ | refine le_set ?_ | refine le_drew ?_ | refine below_step (by assumption) ?_ ?_ | refine le_below (by assumption) ?_) | (dsimp only; omega))))
    · have g2 : (rm == 2) = false := by rw [beq_eq_false_iff_ne]; exact h2
      by_cases h3 : rm = 3
      · have E : Hid (upV rm m odd half rest = (!m && (half || rest))) := by show _ = _; rw [HU.out, if_neg h0, if_neg h2, if_pos h3]
        have g3 : (rm == 3) = true := by rw [beq_iff_eq]; exact h3
        clear HU h0 h2 h3
        cases m <;> cases half <;> cases rest
        all_goals (go_enter Try.func112, Try.ntmps112; go_wp2_with fail; go_ret; exact retB_mk E.out.symm (by repeat (first | (with_reducible first | exact Below.refl _ _ | assumption | exact Nat.le_refl _ | refine Below.drew ?_ | refine Below.alloc ?_ ?_ _ | refine Below.setCell ?_ ?_ _ | refine le_alloc ?_ | refine le_set ?_ | refine le_drew ?_ | refine below_step (by assumption) ?_ ?_ | refine le_below (by assumption) ?_) | (dsimp only; omega))))
      · have g3 : (rm == 3) = false := by rw [beq_eq_false_iff_ne]; exact h3
        by_cases h4 : rm = 4
        · have E : Hid (upV rm m odd half rest = half) := by show _ = _; rw [HU.out, if_neg h0, if_neg h2, if_neg h3, if_pos h4]
          have g4 : (rm == 4) = true := by rw [beq_iff_eq]; exact h4
          clear HU h0 h2 h3 h4
          go_enter Try.func112, Try.ntmps112; go_wp2_with fail; go_ret; exact retB_mk E.out.symm (by repeat (first | (with_reducible first | exact Below.refl _ _ | assumption | exact Nat.le_refl _ | refine Below.drew ?_ | refine Below.alloc ?_ ?_ _ | refine Below.setCell ?_ ?_ _ | refine le_alloc ?_ | refine le_set ?_ | refine le_drew ?_ | refine below_step (by assumption) ?_ ?_ | refine le_below (by assumption) ?_) | (dsimp only; omega)))
        · have E : Hid (upV rm m odd half rest = false) := by show _ = _; rw [HU.out, if_neg h0, if_neg h2, if_neg h3, if_neg h4]
          have g4 : (rm == 4) = false := by rw [beq_eq_false_iff_ne]; exact h4
          clear HU h0 h2 h3 h4
          go_enter Try.func112, Try.ntmps112; go_wp2_with fail; go_ret; exact retB_mk E.out.symm (by repeat (first | (with_reducible first | exact Below.refl _ _ | assumption | exact Nat.le_refl _ | refine Below.drew ?_ | refine Below.alloc ?_ ?_ _ | refine Below.setCell ?_ ?_ _ | refine le_alloc ?_ | refine le_set ?_ | refine le_drew ?_ | refine below_step (by assumption) ?_ ?_ | refine le_below (by assumption) ?_) | (dsimp only; omega)))
def RetCut (c : Nat × Bool) (W : World) (e : Ending) (w' : World) : Prop := RetGB c.1 c.2 W e w'
theorem retCut_mk {c : Nat × Bool} {b : Bool} {K g n cap : Nat} {W w' : World} (h : c = (K, b)) (hB : Hid (IsBig w' g n cap K)) (hb : Below W.heap.size W w') : RetCut c W (.returned (.tuple #[.slice (some ⟨g, 0, none⟩) n cap, .bool b])) w' := by
  subst h; exact ⟨g, n, cap, rfl, hB, hb⟩
set_option maxHeartbeats 8000000 in
theorem cutR_c (rm : Int) (m : Bool) (g n p M : Nat) (b : Int) (more : Bool) (w : World) (h : Hid (IsRaw w g n p M)) (hn : n ≤ 200) (hb1 : -20000 ≤ b) (hb2 : b ≤ 20000) :
    Calls Try.prog 99 #[.int .i64 rm, .bool m, .slice (some ⟨g, 0, none⟩) n p, .int .i64 b, .bool more] w (RetCut (cutR rm m M b more) w) := by
  by_cases h0 : b ≤ 0
  · obtain ⟨s, hs⟩ : ∃ s : Nat, b = -(s : Int) := ⟨(-b).toNat, by omega⟩
    subst hs
    have HC : Hid (cutR rm m M (-(s : Int)) more = (M * 2 ^ s, !more)) := by
      show _ = _; unfold cutR; rw [if_pos h0, show (-(-(s : Int))).toNat = s by omega]
    have hs2 : s ≤ 20000 := by omega
    have h01 : -(s : Int) ≤ 0 := h0
    have hw : wrap64 (s : Int) = (s : Int) := IntWalk.wrap64_in _ (by omega)
    have hw2 : wrap64 (- -(s : Int)) = (s : Int) := by rw [Int.neg_neg]; exact hw
    have hw3 : - -(s : Int) = (s : Int) := Int.neg_neg _
    go_enter Try.func99, Try.ntmps99
    go_wp2_with fail
    refine (up_c g n p M s _ h (by omega) (by omega)).mono ?_
    rintro e w1 ⟨g1, n1, p1, rfl, hB, b1⟩
    go_wp2_with fail
    go_ret2
    exact retCut_mk HC.out hB b1
  · obtain ⟨s, hs⟩ : ∃ s : Nat, b = (s : Int) + 1 := ⟨(b - 1).toNat, by omega⟩
    subst hs
    obtain ⟨t, ht⟩ : ∃ t, t = s + 1 := ⟨_, rfl⟩
    have hti : (s : Int) + 1 = (t : Int) := by omega
    have hti2 : (t : Int) - 1 = (s : Int) := by omega
    have ht0 : ¬ (t : Int) ≤ 0 := by omega
    have hs2 : s ≤ 20000 := by omega
    have ht2 : t ≤ 20000 := by omega
    rw [hti]
    obtain ⟨none, hnone⟩ : ∃ z : Bool, z = decide (M % 2 ^ t = 0) := ⟨_, rfl⟩
    obtain ⟨low, hlow⟩ : ∃ z : Bool, z = decide (M % 2 ^ s = 0) := ⟨_, rfl⟩
    obtain ⟨half, hhalf⟩ : ∃ z : Bool, z = decide (bitN M s = 1) := ⟨_, rfl⟩
    obtain ⟨K, hK⟩ : ∃ K, K = M / 2 ^ t := ⟨_, rfl⟩
    obtain ⟨odd, hodd⟩ : ∃ z : Bool, z = decide (bitN K 0 = 1) := ⟨_, rfl⟩
    have g1 : ((bitN M s : Int) == 1) = half := by rw [hhalf, Bool.eq_iff_iff, beq_iff_eq, decide_eq_true_eq]; omega
    have g2 : ((bitN K 0 : Int) == 1) = odd := by rw [hodd, Bool.eq_iff_iff, beq_iff_eq, decide_eq_true_eq]; omega
    have HC : Hid (cutR rm m M (t : Int) more = (K + (if upV rm m odd half (!low || more) then 1 else 0), none && !more)) := by
      show _ = _; unfold cutR
      rw [if_neg (by omega), Int.toNat_natCast, show t - 1 = s by omega, ← hK, ← hnone, ← hlow, ← hhalf, ← hodd]
    have HKL : Hid (K < 2 ^ (32 * n)) := by
      show _ < _; rw [hK]; exact Nat.lt_of_le_of_lt (Nat.div_le_self _ _) (shd_eq_zero.1 h.out.2.2.2)
    have HNO := Lib.hid hnone; have HLO := Lib.hid hlow; have HKD := Lib.hid hK
    have HT0 : Hid (0 = 0) := rfl
    clear hb1 hb2 h0 ht hti hnone hlow hhalf hK hodd
    obtain ⟨u, hu⟩ : ∃ u : Bool, u = upV rm m odd half (!low || more) := ⟨_, rfl⟩
    rw [← hu] at HC
    have HU := Lib.hid hu; clear hu
    go_enter Try.func99, Try.ntmps99
    go_wp2_with fail
    refine (down_c g n p M t _ h (by omega) (by omega)).mono ?_
    rintro e w1 ⟨g1, n1, p1, rfl, hB1, b1⟩
    rw [← HKD.out] at hB1
    rw [← HNO.out]
    have l1 := big_len hB1.out (m := n) (shd_eq_zero.2 HKL.out)
    have hM1 : Hid (IsRaw w1 g n p M) := raw_below h.out b1 (Nat.le_refl _)
    have bz1 := Lib.hid b1.size
    go_wp2_with fail
    refine (bit_c g n p M s _ hM1 (by omega) (by omega)).mono ?_
    rintro e w2 ⟨rfl, rfl⟩
    go_wp2_with fail
    refine (down_c g n p M s _ hM1 (by omega) (by omega)).mono ?_
    rintro e w3 ⟨g3, n3, p3, rfl, hB3, b3⟩
    rw [← HLO.out]
    have hK3 : Hid (IsBig w3 g1 n1 p1 K) := big_below hB1.out b3 (Nat.le_refl _)
    have c3 := b1.trans (b3.mono bz1.out)
    clear hB1 hM1 hB3
    cases none
    · cases more
      · cases low
        · go_wp2_with fail
          refine (bit_c g1 n1 p1 K 0 _ (Lib.hid hK3.out.1) (by omega) (by omega)).mono ?_
          rintro e w4 ⟨rfl, rfl⟩
          go_wp2_with fail
          refine (upR_c rm m odd half true _).mono ?_
          rintro e w5 ⟨rfl, b5⟩
          have hK5 : Hid (IsBig w5 g1 n1 p1 K) := big_below hK3.out b5 (Nat.le_refl _)
          have c5 := c3.trans (b5.mono c3.size)
          have HU2 : Hid (upV rm m odd half true = u) := HU.out.symm
          rw [HU2.out]
          clear hK3 HU HU2
          cases u
          · go_wp2_with fail
            go_ret2
            exact retCut_mk HC.out hK5 c5
          · go_wp2_with fail
            refine (plus1_c g1 n1 p1 K _ (Lib.hid hK5.out.1) (by omega)).mono ?_
            rintro e w6 ⟨g6, n6, p6, rfl, hB6, b6⟩
            have c6 := c5.trans (b6.mono c5.size)
            go_wp2_with fail
            go_ret2
            exact retCut_mk HC.out hB6 c6
        · go_wp2_with fail
          refine (bit_c g1 n1 p1 K 0 _ (Lib.hid hK3.out.1) (by omega) (by omega)).mono ?_
          rintro e w4 ⟨rfl, rfl⟩
          go_wp2_with fail
          refine (upR_c rm m odd half false _).mono ?_
          rintro e w5 ⟨rfl, b5⟩
          have hK5 : Hid (IsBig w5 g1 n1 p1 K) := big_below hK3.out b5 (Nat.le_refl _)
          have c5 := c3.trans (b5.mono c3.size)
          have HU2 : Hid (upV rm m odd half false = u) := HU.out.symm
          rw [HU2.out]
          clear hK3 HU HU2
          cases u
          · go_wp2_with fail
            go_ret2
            exact retCut_mk HC.out hK5 c5
          · go_wp2_with fail
            refine (plus1_c g1 n1 p1 K _ (Lib.hid hK5.out.1) (by omega)).mono ?_
            rintro e w6 ⟨g6, n6, p6, rfl, hB6, b6⟩
            have c6 := c5.trans (b6.mono c5.size)
            go_wp2_with fail
            go_ret2
            exact retCut_mk HC.out hB6 c6
      · cases low
        · go_wp2_with fail
          refine (bit_c g1 n1 p1 K 0 _ (Lib.hid hK3.out.1) (by omega) (by omega)).mono ?_
          rintro e w4 ⟨rfl, rfl⟩
          go_wp2_with fail
          refine (upR_c rm m odd half true _).mono ?_
          rintro e w5 ⟨rfl, b5⟩
          have hK5 : Hid (IsBig w5 g1 n1 p1 K) := big_below hK3.out b5 (Nat.le_refl _)
          have c5 := c3.trans (b5.mono c3.size)
          have HU2 : Hid (upV rm m odd half true = u) := HU.out.symm
          rw [HU2.out]
          clear hK3 HU HU2
          cases u
          · go_wp2_with fail
            go_ret2
            exact retCut_mk HC.out hK5 c5
          · go_wp2_with fail
            refine (plus1_c g1 n1 p1 K _ (Lib.hid hK5.out.1) (by omega)).mono ?_
            rintro e w6 ⟨g6, n6, p6, rfl, hB6, b6⟩
            have c6 := c5.trans (b6.mono c5.size)
            go_wp2_with fail
            go_ret2
            exact retCut_mk HC.out hB6 c6
        · go_wp2_with fail
          refine (bit_c g1 n1 p1 K 0 _ (Lib.hid hK3.out.1) (by omega) (by omega)).mono ?_
          rintro e w4 ⟨rfl, rfl⟩
          go_wp2_with fail
          refine (upR_c rm m odd half true _).mono ?_
          rintro e w5 ⟨rfl, b5⟩
          have hK5 : Hid (IsBig w5 g1 n1 p1 K) := big_below hK3.out b5 (Nat.le_refl _)
          have c5 := c3.trans (b5.mono c3.size)
          have HU2 : Hid (upV rm m odd half true = u) := HU.out.symm
          rw [HU2.out]
          clear hK3 HU HU2
          cases u
          · go_wp2_with fail
            go_ret2
            exact retCut_mk HC.out hK5 c5
          · go_wp2_with fail
            refine (plus1_c g1 n1 p1 K _ (Lib.hid hK5.out.1) (by omega)).mono ?_
            rintro e w6 ⟨g6, n6, p6, rfl, hB6, b6⟩
            have c6 := c5.trans (b6.mono c5.size)
            go_wp2_with fail
            go_ret2
            exact retCut_mk HC.out hB6 c6
    · cases more
      · cases low
        · go_wp2_with fail
          refine (bit_c g1 n1 p1 K 0 _ (Lib.hid hK3.out.1) (by omega) (by omega)).mono ?_
          rintro e w4 ⟨rfl, rfl⟩
          go_wp2_with fail
          refine (upR_c rm m odd half true _).mono ?_
          rintro e w5 ⟨rfl, b5⟩
          have hK5 : Hid (IsBig w5 g1 n1 p1 K) := big_below hK3.out b5 (Nat.le_refl _)
          have c5 := c3.trans (b5.mono c3.size)
          have HU2 : Hid (upV rm m odd half true = u) := HU.out.symm
          rw [HU2.out]
          clear hK3 HU HU2
          cases u
          · go_wp2_with fail
            go_ret2
            exact retCut_mk HC.out hK5 c5
          · go_wp2_with fail
            refine (plus1_c g1 n1 p1 K _ (Lib.hid hK5.out.1) (by omega)).mono ?_
            rintro e w6 ⟨g6, n6, p6, rfl, hB6, b6⟩
            have c6 := c5.trans (b6.mono c5.size)
            go_wp2_with fail
            go_ret2
            exact retCut_mk HC.out hB6 c6
        · go_wp2_with fail
          refine (bit_c g1 n1 p1 K 0 _ (Lib.hid hK3.out.1) (by omega) (by omega)).mono ?_
          rintro e w4 ⟨rfl, rfl⟩
          go_wp2_with fail
          refine (upR_c rm m odd half false _).mono ?_
          rintro e w5 ⟨rfl, b5⟩
          have hK5 : Hid (IsBig w5 g1 n1 p1 K) := big_below hK3.out b5 (Nat.le_refl _)
          have c5 := c3.trans (b5.mono c3.size)
          have HU2 : Hid (upV rm m odd half false = u) := HU.out.symm
          rw [HU2.out]
          clear hK3 HU HU2
          cases u
          · go_wp2_with fail
            go_ret2
            exact retCut_mk HC.out hK5 c5
          · go_wp2_with fail
            refine (plus1_c g1 n1 p1 K _ (Lib.hid hK5.out.1) (by omega)).mono ?_
            rintro e w6 ⟨g6, n6, p6, rfl, hB6, b6⟩
            have c6 := c5.trans (b6.mono c5.size)
            go_wp2_with fail
            go_ret2
            exact retCut_mk HC.out hB6 c6
      · cases low
        · go_wp2_with fail
          refine (bit_c g1 n1 p1 K 0 _ (Lib.hid hK3.out.1) (by omega) (by omega)).mono ?_
          rintro e w4 ⟨rfl, rfl⟩
          go_wp2_with fail
          refine (upR_c rm m odd half true _).mono ?_
          rintro e w5 ⟨rfl, b5⟩
          have hK5 : Hid (IsBig w5 g1 n1 p1 K) := big_below hK3.out b5 (Nat.le_refl _)
          have c5 := c3.trans (b5.mono c3.size)
          have HU2 : Hid (upV rm m odd half true = u) := HU.out.symm
          rw [HU2.out]
          clear hK3 HU HU2
          cases u
          · go_wp2_with fail
            go_ret2
            exact retCut_mk HC.out hK5 c5
          · go_wp2_with fail
            refine (plus1_c g1 n1 p1 K _ (Lib.hid hK5.out.1) (by omega)).mono ?_
            rintro e w6 ⟨g6, n6, p6, rfl, hB6, b6⟩
            have c6 := c5.trans (b6.mono c5.size)
            go_wp2_with fail
            go_ret2
            exact retCut_mk HC.out hB6 c6
        · go_wp2_with fail
          refine (bit_c g1 n1 p1 K 0 _ (Lib.hid hK3.out.1) (by omega) (by omega)).mono ?_
          rintro e w4 ⟨rfl, rfl⟩
          go_wp2_with fail
          refine (upR_c rm m odd half true _).mono ?_
          rintro e w5 ⟨rfl, b5⟩
          have hK5 : Hid (IsBig w5 g1 n1 p1 K) := big_below hK3.out b5 (Nat.le_refl _)
          have c5 := c3.trans (b5.mono c3.size)
          have HU2 : Hid (upV rm m odd half true = u) := HU.out.symm
          rw [HU2.out]
          clear hK3 HU HU2
          cases u
          · go_wp2_with fail
            go_ret2
            exact retCut_mk HC.out hK5 c5
          · go_wp2_with fail
            refine (plus1_c g1 n1 p1 K _ (Lib.hid hK5.out.1) (by omega)).mono ?_
            rintro e w6 ⟨g6, n6, p6, rfl, hB6, b6⟩
            have c6 := c5.trans (b6.mono c5.size)
            go_wp2_with fail
            go_ret2
            exact retCut_mk HC.out hB6 c6
end Go.Proofs.Yteinjalnkhfecaa.Q
