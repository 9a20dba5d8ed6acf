/- Taken from other texts: what is needed of them besides. -/
import Derived.Test.YteinjalnkhfecaaQW1
import Derived.WalkKit
import Derived.Laws.BitsAllLaws
import Derived.Laws.Bits64
import Derived.Laws.Bits64b
import Derived.Lib.ItoaNum
import Derived.ProofKit
import Derived.OpenShut
import Derived.WalkLawsBesides
import Derived.WalkSpells
import Derived.RegionTactic
import Derived.ChangeAlike
import Derived.Outline
import Derived.Laws.Externs
import Derived.Lib.Hide
import Derived.Shelf.Spec.BitsCarry
import Derived.Deep.RegionHeld3
import Derived.Laws.StructEq
import Derived.Deep.DeepCutAuto
import Derived.Deep.RegionWith
import Derived.Deep.CutBlock
import Derived.Deep.QuietTactic
import Derived.BigQuiet
import Derived.ChangeSame
import Derived.Laws.AppendOwn
import Derived.Laws.OwnMore
import Derived.Maps.AppendAt
import Derived.OwnWalk
import Derived.LoopN
import Derived.Lib.QuietBelow
import Derived.StillTailTactics
namespace Go.Proofs.Yteinjalnkhfecaa.Q
open Go.ChangeShapes Go.WideShapes Go.ChangeAt Go.RowKit
set_option linter.unusedVariables false
set_option linter.unusedSimpArgs false
attribute [local go_sem ↓ high] run_neW run_eqW
def swapB (x y : Num) : Bool := decide (x.exp < y.exp ∨ x.exp = y.exp ∧ x.mag < y.mag)
def addN (a b : Num) : Num :=
  let s := rsticky b.mag (a.exp - b.exp).toNat
  if a.minus = b.minus then ⟨a.cls, a.minus, a.exp, a.mag + s⟩ else if a.mag = s then ⟨0, false, 0, 0⟩ else ⟨a.cls, a.minus, a.exp, a.mag - s⟩
/-- The sum of two numbers that are finite, as the code has it. -/
def totalN (M N : Num) : Num :=
  if M.cls = 0 then N else if N.cls = 0 then M else
  if swapB (raisedN M 126) (raisedN N 126) then addN (raisedN N 126) (raisedN M 126) else addN (raisedN M 126) (raisedN N 126)
theorem totalN_one {M N : Num} (h1 : M.cls ≠ 0) (h2 : N.cls ≠ 0) : totalN M N = if swapB (raisedN M 126) (raisedN N 126) then addN (raisedN N 126) (raisedN M 126) else addN (raisedN M 126) (raisedN N 126) := by
  unfold totalN; rw [if_neg h1, if_neg h2]
theorem rsticky_le (x n : Nat) (hx : x < 2 ^ 128) (h0 : x ≠ 0) : rsticky x n ≤ x ∧ (1 ≤ n → rsticky x n ≤ x / 2 + 1) := by
  unfold rsticky
  have hd := Nat.div_le_self x (2 ^ n)
  have hn : 1 ≤ n → x / 2 ^ n ≤ x / 2 := fun h => by
    obtain ⟨k, rfl⟩ : ∃ k, n = k + 1 := ⟨n - 1, by omega⟩
    rw [Nat.pow_succ, Nat.mul_comm, ← Nat.div_div_eq_div_mul]; exact Nat.div_le_self _ _
  by_cases h : shl (x / 2 ^ n) n = x
  · rw [if_pos h]; exact ⟨hd, fun h => by have := hn h; omega⟩
  · rw [if_neg h]
    by_cases h1 : n = 0
    · subst h1; exfalso; apply h; unfold shl; rw [Nat.pow_zero, Nat.div_one, Nat.mul_one]; exact Nat.mod_eq_of_lt hx
    · have := hn (by omega); exact ⟨by omega, fun _ => by omega⟩
theorem total_0 (c : Int) (m : Bool) (x : Int) (h l : Nat) (M : Num) (hM : Hid (IsN c m x h l M)) (c' : Int) (m' : Bool) (x' : Int) (h' l' : Nat) (N : Num) (hN : Hid (IsN c' m' x' h' l' N))
    (hc : c = 0 ∨ c' = 0) (w : World) :
    Calls Try.prog 103 #[.agg #[.int .i64 c, .bool m, .int .i64 x, .int .u64 h, .int .u64 l], .agg #[.int .i64 c', .bool m', .int .i64 x', .int .u64 h', .int .u64 l']] w (RetN (totalN M N) w) := by
  by_cases h0 : c = 0
  · have HT : Hid (totalN M N = N) := by show totalN M N = N; unfold totalN; exact if_pos (by have := hM.out.1; omega)
    subst h0; clear hc
    go_enter Try.func103, Try.ntmps103
    go_wp2_with fail
    refine bodyPost_ret (v := .agg #[_, _, _, _, _]) (by simp [results, Try.results103, go_sem, sz_set] <;> (first | rfl | (repeat' (first | rfl | apply And.intro)))) rfl (retN_mk (HT.out.symm ▸ hN.out) rfl rfl (by repeat (first | (with_reducible first | exact Below.refl _ _ | assumption | exact Nat.le_refl _ | refine Below.drew ?_ | refine Below.alloc ?_ ?_ _ | refine Below.setCell ?_ ?_ _ | refine le_alloc ?_ | refine le_set ?_ | refine le_drew ?_ | refine below_step (by assumption) ?_ ?_ | refine le_below (by assumption) ?_) | (dsimp only; omega))))
  · have h1 : c' = 0 := by omega
    have HT : Hid (totalN M N = M) := by show totalN M N = M; unfold totalN; rw [if_neg (by have := hM.out.1; omega), if_pos (by have := hN.out.1; omega)]
    have hb : (c == 0) = false := by rw [beq_eq_false_iff_ne]; exact h0
    subst h1; clear hc h0
    go_enter Try.func103, Try.ntmps103
    go_wp2_with fail
    refine bodyPost_ret (v := .agg #[_, _, _, _, _]) (by simp [results, Try.results103, go_sem, sz_set] <;> (first | rfl | (repeat' (first | rfl | apply And.intro)))) rfl (retN_mk (HT.out.symm ▸ hM.out) rfl rfl (by repeat (first | (with_reducible first | exact Below.refl _ _ | assumption | exact Nat.le_refl _ | refine Below.drew ?_ | refine Below.alloc ?_ ?_ _ | refine Below.setCell ?_ ?_ _ | refine le_alloc ?_ | refine le_set ?_ | refine le_drew ?_ | refine below_step (by assumption) ?_ ?_ | refine le_below (by assumption) ?_) | (dsimp only; omega))))
set_option maxHeartbeats 2000000 in
theorem total_1 (m : Bool) (x : Int) (h l : Nat) (M : Num) (hM : Hid (IsN 1 m x h l M)) (m' : Bool) (x' : Int) (h' l' : Nat) (N : Num) (hN : Hid (IsN 1 m' x' h' l' N))
    (a1 : -10000 ≤ x) (a2 : x ≤ 10000) (b1 : -10000 ≤ x') (b2 : x' ≤ 10000) (s1 : Hid (M.mag < 2 ^ 127)) (s2 : Hid (N.mag < 2 ^ 127)) (z1 : Hid (M.mag ≠ 0)) (z2 : Hid (N.mag ≠ 0)) (y1 : Hid ((blen M.mag : Int) ≤ 126 + 1)) (y2 : Hid ((blen N.mag : Int) ≤ 126 + 1)) (w : World) :
    Calls Try.prog 103 #[.agg #[.int .i64 1, .bool m, .int .i64 x, .int .u64 h, .int .u64 l], .agg #[.int .i64 1, .bool m', .int .i64 x', .int .u64 h', .int .u64 l']] w (RetN (totalN M N) w) := by
  go_enter Try.func103, Try.ntmps103
  go_upto_region 5 with fail
  go_cut [] (fun wx => ∃ (c1 : Int) (m1 : Bool) (x1 : Int) (h1 l1 : Nat) (c2 : Int) (m2 : Bool) (x2 : Int) (h2 l2 : Nat), Hid (IsN c1 m1 x1 h1 l1 (raisedN M 126)) ∧ Hid (IsN c2 m2 x2 h2 l2 (raisedN N 126)) ∧
    At5 wx w.heap.size c1 m1 x1 h1 l1 ∧ At5 wx (w.heap.size + 1) c2 m2 x2 h2 l2 ∧ At5 wx (w.heap.size + 1 + 1) 0 false 0 0 0 ∧ Below w.heap.size w wx ∧ w.heap.size + 1 + 1 + 1 ≤ wx.heap.size)
  case first =>
    go_region_with (first
        | (go_at_call_of 113 (Value.int .i64 x); refine (raised_c 1 m x h l M 126 hM (by decide) (by decide) y1.out (by omega) (by omega) _).mono ?_; rintro e w1 ⟨c1, m1, x1, h1, l1, rfl, hI1, hb1⟩; obtain ⟨hc1, hf1⟩ := bcell hb1; have hz1 := hb1.size; (try simp only [sz_alloc, sz_drew, sz_set] at hz1 hc1 hf1); have l1_0 : w.heap.size < w1.heap.size := (by omega); have n1_0 : ¬ w.heap.size = w1.heap.size := (by omega); have m1_0 : ¬ w1.heap.size = w.heap.size := (by omega); have k1_0 := fun o => hc1 (w.heap.size) o (by omega); have f1_0 := fun o => hf1 (w.heap.size) o (by omega); (try simp (disch := (first | rfl | omega | (simp only [sz_alloc, sz_drew, sz_set]; omega))) only [sz_alloc, sz_drew, sz_set, World.cell?_drew, World.frozen?_drew, World.cell?_alloc_at, World.cell?_alloc_past, World.frozen?_alloc_at, World.frozen?_alloc_past] at k1_0 f1_0); have l1_1 : w.heap.size + 1 < w1.heap.size := (by omega); have n1_1 : ¬ w.heap.size + 1 = w1.heap.size := (by omega); have m1_1 : ¬ w1.heap.size = w.heap.size + 1 := (by omega); have k1_1 := fun o => hc1 (w.heap.size + 1) o (by omega); have f1_1 := fun o => hf1 (w.heap.size + 1) o (by omega); (try simp (disch := (first | rfl | omega | (simp only [sz_alloc, sz_drew, sz_set]; omega))) only [sz_alloc, sz_drew, sz_set, World.cell?_drew, World.frozen?_drew, World.cell?_alloc_at, World.cell?_alloc_past, World.frozen?_alloc_at, World.frozen?_alloc_past] at k1_1 f1_1); have l1_2 : w.heap.size + 1 + 1 < w1.heap.size := (by omega); have n1_2 : ¬ w.heap.size + 1 + 1 = w1.heap.size := (by omega); have m1_2 : ¬ w1.heap.size = w.heap.size + 1 + 1 := (by omega); have k1_2 := fun o => hc1 (w.heap.size + 1 + 1) o (by omega); have f1_2 := fun o => hf1 (w.heap.size + 1 + 1) o (by omega); (try simp (disch := (first | rfl | omega | (simp only [sz_alloc, sz_drew, sz_set]; omega))) only [sz_alloc, sz_drew, sz_set, World.cell?_drew, World.frozen?_drew, World.cell?_alloc_at, World.cell?_alloc_past, World.frozen?_alloc_at, World.frozen?_alloc_past] at k1_2 f1_2))
        | (go_at_call_of 113 (Value.int .i64 x'); refine (raised_c 1 m' x' h' l' N 126 hN (by decide) (by decide) y2.out (by omega) (by omega) _).mono ?_; rintro e w2 ⟨c2, m2, x2, h2, l2, rfl, hI2, hb2⟩; obtain ⟨hc2, hf2⟩ := bcell hb2; have hz2 := hb2.size; (try simp only [sz_alloc, sz_drew, sz_set] at hz2 hc2 hf2); have l2_0 : w.heap.size < w2.heap.size := (by omega); have n2_0 : ¬ w.heap.size = w2.heap.size := (by omega); have m2_0 : ¬ w2.heap.size = w.heap.size := (by omega); have k2_0 := fun o => hc2 (w.heap.size) o (by omega); have f2_0 := fun o => hf2 (w.heap.size) o (by omega); (try simp (disch := (first | rfl | omega | (simp only [sz_alloc, sz_drew, sz_set]; omega))) only [sz_alloc, sz_drew, sz_set, World.cell?_drew, World.frozen?_drew, World.cell?_alloc_at, World.cell?_alloc_past, World.frozen?_alloc_at, World.frozen?_alloc_past] at k2_0 f2_0); have l2_1 : w.heap.size + 1 < w2.heap.size := (by omega); have n2_1 : ¬ w.heap.size + 1 = w2.heap.size := (by omega); have m2_1 : ¬ w2.heap.size = w.heap.size + 1 := (by omega); have k2_1 := fun o => hc2 (w.heap.size + 1) o (by omega); have f2_1 := fun o => hf2 (w.heap.size + 1) o (by omega); (try simp (disch := (first | rfl | omega | (simp only [sz_alloc, sz_drew, sz_set]; omega))) only [sz_alloc, sz_drew, sz_set, World.cell?_drew, World.frozen?_drew, World.cell?_alloc_at, World.cell?_alloc_past, World.frozen?_alloc_at, World.frozen?_alloc_past] at k2_1 f2_1); have l2_2 : w.heap.size + 1 + 1 < w2.heap.size := (by omega); have n2_2 : ¬ w.heap.size + 1 + 1 = w2.heap.size := (by omega); have m2_2 : ¬ w2.heap.size = w.heap.size + 1 + 1 := (by omega); have k2_2 := fun o => hc2 (w.heap.size + 1 + 1) o (by omega); have f2_2 := fun o => hf2 (w.heap.size + 1 + 1) o (by omega); (try simp (disch := (first | rfl | omega | (simp only [sz_alloc, sz_drew, sz_set]; omega))) only [sz_alloc, sz_drew, sz_set, World.cell?_drew, World.frozen?_drew, World.cell?_alloc_at, World.cell?_alloc_past, World.frozen?_alloc_at, World.frozen?_alloc_past] at k2_2 f2_2)))
    all_goals go_wp2_with fail
    all_goals go_meet
    all_goals refine ⟨c1, m1, x1, h1, l1, c2, m2, x2, h2, l2, hI1, hI2, ⟨?_, ?_, ?_, ?_, ?_, ?_⟩, ⟨?_, ?_, ?_, ?_, ?_, ?_⟩, ⟨?_, ?_, ?_, ?_, ?_, ?_⟩, (by repeat (first | (with_reducible first | exact Below.refl _ _ | assumption | exact Nat.le_refl _ | refine Below.drew ?_ | refine Below.alloc ?_ ?_ _ | refine Below.setCell ?_ ?_ _ | refine le_alloc ?_ | refine le_set ?_ | refine le_drew ?_ | refine below_step (by assumption) ?_ ?_ | refine le_below (by assumption) ?_) | (dsimp only; omega))), ?_⟩
    all_goals (first | (simp only [sz_set, sz_drew]; omega) | (go_simp; done) | (simp (disch := omega) [*, cell_set_far]; done))
  case rest =>
    obtain ⟨c1, m1, x1, h1, l1, c2, m2, x2, h2, l2, hI1, hI2, ⟨p0, p1, p2, p3, p4, p5⟩, ⟨q0, q1, q2, q3, q4, q5⟩, ⟨r0, r1, r2, r3, r4, r5⟩, hbc, hzc⟩ := hcut
    have R1 := Lib.hid (raised_mag z1.out (by decide : 126 ≤ 127) (by have := y1.out; omega))
    have R2 := Lib.hid (raised_mag z2.out (by decide : 126 ≤ 127) (by have := y2.out; omega))
    have HT := Lib.hid (totalN_one (M := M) (N := N) (by have := hM.out.1; omega) (by have := hN.out.1; omega))
    have B1 : Hid (x1 = (raisedN M 126).exp ∧ (raisedN M 126).exp = x - (127 - (blen M.mag : Int))) := ⟨hI1.out.2.2.1, by rw [hM.out.2.2.1]; rfl⟩
    have B2 : Hid (x2 = (raisedN N 126).exp ∧ (raisedN N 126).exp = x' - (127 - (blen N.mag : Int))) := ⟨hI2.out.2.2.1, by rw [hN.out.2.2.1]; rfl⟩
    have o1 : -11000 ≤ x1 := by have := B1.out; omega
    have o2 : x1 ≤ 11000 := by have := B1.out; have := y1.out; omega
    have o3 : -11000 ≤ x2 := by have := B2.out; omega
    have o4 : x2 ≤ 11000 := by have := B2.out; have := y2.out; omega
    have HC : Hid (c1 = 1 ∧ c2 = 1) := by
      refine ⟨hI1.out.1.trans ?_, hI2.out.1.trans ?_⟩
      · exact hM.out.1.symm
      · exact hN.out.1.symm
    generalize hsw : swapB (raisedN M 126) (raisedN N 126) = sw
    rw [hsw] at HT
    have HSW := Lib.hid hsw; clear hsw
    go_upto_region 6 with fail
    go_cut [35] (fun s35 wx => s35 = .bool sw ∧ At5 wx w.heap.size c1 m1 x1 h1 l1 ∧ At5 wx (w.heap.size + 1) c2 m2 x2 h2 l2 ∧ At5 wx (w.heap.size + 1 + 1) 0 false 0 0 0 ∧ Below w.heap.size w wx ∧ w.heap.size + 1 + 1 + 1 ≤ wx.heap.size)
    case first =>
      have HS : Hid (sw = decide (x1 < x2 ∨ x1 = x2 ∧ (raisedN M 126).mag < (raisedN N 126).mag)) := by
        show sw = _
        rw [← HSW.out]; unfold swapB
        rw [B1.out.1, B2.out.1]
      by_cases e1 : x1 < x2
      · have E : Hid (sw = true) := by show sw = true; rw [HS.out]; exact decide_eq_true (.inl e1)
        go_wp2_with fail
        go_meet
        exact ⟨by rw [E.out], ⟨p0, p1, p2, p3, p4, p5⟩, ⟨q0, q1, q2, q3, q4, q5⟩, ⟨r0, r1, r2, r3, r4, r5⟩, hbc, hzc⟩
      · by_cases e2 : x1 = x2
        · have hb1 : (x1 == x2) = true := by rw [beq_iff_eq]; exact e2
          have hb2 : decide (x1 < x2) = false := decide_eq_false e1
          have E : Hid (sw = decide ((raisedN M 126).mag < (raisedN N 126).mag)) := by
            show sw = _
            rw [HS.out, Bool.eq_iff_iff]; simp only [decide_eq_true_eq]; constructor
            · intro h; rcases h with h | h; exact absurd h e1; exact h.2
            · intro h; exact .inr ⟨e2, h⟩
          have e3 : x2 ≤ x1 := by omega
          clear e1 e2
          go_wp2_with fail
          refine (below_c _ _ (raisedN M 126).mag _ _ (raisedN N 126).mag hI1.out.2.2.2 hI2.out.2.2.2 _).mono ?_
          rintro e w5 ⟨rfl, hb5⟩
          go_wp2_with fail
          go_meet
          exact ⟨by rw [E.out], At5.below ⟨p0, p1, p2, p3, p4, p5⟩ hb5 (by omega), At5.below ⟨q0, q1, q2, q3, q4, q5⟩ hb5 (by omega), At5.below ⟨r0, r1, r2, r3, r4, r5⟩ hb5 (by omega), hbc.trans (hb5.mono (by omega)), Nat.le_trans hzc hb5.size⟩
        · have E : Hid (sw = false) := by
            show sw = _
            rw [HS.out]; apply decide_eq_false; intro h; rcases h with h | h; exact e1 h; exact e2 h.1
          have hb1 : (x1 == x2) = false := by rw [beq_eq_false_iff_ne]; exact e2
          have e3 : x2 ≤ x1 := by omega
          clear e2
          go_wp2_with fail
          go_meet
          exact ⟨by rw [E.out], ⟨p0, p1, p2, p3, p4, p5⟩, ⟨q0, q1, q2, q3, q4, q5⟩, ⟨r0, r1, r2, r3, r4, r5⟩, hbc, hzc⟩
    case rest =>
      obtain ⟨rfl, ⟨p0, p1, p2, p3, p4, p5⟩, ⟨q0, q1, q2, q3, q4, q5⟩, ⟨r0, r1, r2, r3, r4, r5⟩, hbc, hzc⟩ := hcut
      go_upto_if 35 with (fail)
      go_cut [] (fun wx => ∃ (ca : Int) (ma : Bool) (xa : Int) (ha la : Nat) (cb : Int) (mb : Bool) (xb : Int) (hb lb : Nat) (A B : Num), Hid (IsN ca ma xa ha la A) ∧ Hid (IsN cb mb xb hb lb B) ∧ Hid (ca = 1) ∧
        xb ≤ xa ∧ -11000 ≤ xb ∧ xa ≤ 11000 ∧ Hid (2 ^ 126 ≤ A.mag ∧ A.mag < 2 ^ 127 ∧ 2 ^ 126 ≤ B.mag ∧ B.mag < 2 ^ 127) ∧ Hid (xa = xb → B.mag ≤ A.mag) ∧ Hid (totalN M N = addN A B) ∧
        At5 wx w.heap.size ca ma xa ha la ∧ At5 wx (w.heap.size + 1) cb mb xb hb lb ∧ At5 wx (w.heap.size + 1 + 1) 0 false 0 0 0 ∧ Below w.heap.size w wx ∧ w.heap.size + 1 + 1 + 1 ≤ wx.heap.size)
      case first =>
        have HS : Hid (sw = decide (x1 < x2 ∨ x1 = x2 ∧ (raisedN M 126).mag < (raisedN N 126).mag)) := by
          show sw = _
          rw [← HSW.out]; unfold swapB
          rw [B1.out.1, B2.out.1]
        cases sw
        · have S0 : Hid (x2 ≤ x1 ∧ (x1 = x2 → (raisedN N 126).mag ≤ (raisedN M 126).mag)) := by
            have := of_decide_eq_false HS.out.symm
            exact ⟨by omega, fun h => by omega⟩
          go_wp2_with fail
          go_meet
          exact ⟨c1, m1, x1, h1, l1, c2, m2, x2, h2, l2, _, _, hI1, hI2, HC.out.1, S0.out.1, o3, o2, ⟨R1.out.2.1, R1.out.2.2, R2.out.2.1, R2.out.2.2⟩, S0.out.2, HT.out, ⟨p0, p1, p2, p3, p4, p5⟩, ⟨q0, q1, q2, q3, q4, q5⟩, ⟨r0, r1, r2, r3, r4, r5⟩, hbc, hzc⟩
        · have S0 : Hid (x1 ≤ x2 ∧ (x2 = x1 → (raisedN M 126).mag ≤ (raisedN N 126).mag)) := by
            have := of_decide_eq_true HS.out.symm
            exact ⟨by omega, fun h => by omega⟩
          go_wp2_with fail
          go_meet
          refine ⟨c2, m2, x2, h2, l2, c1, m1, x1, h1, l1, _, _, hI2, hI1, HC.out.2, S0.out.1, o1, o4, ⟨R2.out.2.1, R2.out.2.2, R1.out.2.1, R1.out.2.2⟩, S0.out.2, HT.out, ⟨?_, ?_, ?_, ?_, ?_, ?_⟩, ⟨?_, ?_, ?_, ?_, ?_, ?_⟩, ⟨?_, ?_, ?_, ?_, ?_, ?_⟩, (by repeat (first | (with_reducible first | exact Below.refl _ _ | assumption | exact Nat.le_refl _ | refine Below.drew ?_ | refine Below.alloc ?_ ?_ _ | refine Below.setCell ?_ ?_ _ | refine le_alloc ?_ | refine le_set ?_ | refine le_drew ?_ | refine below_step (by assumption) ?_ ?_ | refine le_below (by assumption) ?_) | (dsimp only; omega))), ?_⟩
          all_goals (first | (simp only [sz_set, sz_drew]; omega) | (go_simp; done) | (simp (disch := omega) [*, cell_set_far]; done))
      case rest =>
        obtain ⟨ca, ma, xa, ha, la, cb, mb, xb, hb, lb, A, B, hA, hB, hca, g1, g2, g3, hm, hle, hT, ⟨p0, p1, p2, p3, p4, p5⟩, ⟨q0, q1, q2, q3, q4, q5⟩, ⟨r0, r1, r2, r3, r4, r5⟩, hbc, hzc⟩ := hcut
        have hwB : Hid (IsW hb lb B.mag) := hB.out.2.2.2
        have hwA : Hid (IsW ha la A.mag) := hA.out.2.2.2
        go_wp2_with fail
        refine (rightSticky_c hb lb B.mag _ hwB (by omega) (by omega) _).mono ?_
        rintro e w6 ⟨h6, l6, rfl, hI6, hb6⟩
        obtain ⟨hc6, hf6⟩ := bcell hb6; have hz6 := hb6.size; (try simp only [sz_alloc, sz_drew, sz_set] at hz6 hc6 hf6); have l6_0 : w.heap.size < w6.heap.size := (by omega); have n6_0 : ¬ w.heap.size = w6.heap.size := (by omega); have m6_0 : ¬ w6.heap.size = w.heap.size := (by omega); have k6_0 := fun o => hc6 (w.heap.size) o (by omega); have f6_0 := fun o => hf6 (w.heap.size) o (by omega); (try simp (disch := (first | rfl | omega | (simp only [sz_alloc, sz_drew, sz_set]; omega))) only [sz_alloc, sz_drew, sz_set, World.cell?_drew, World.frozen?_drew, World.cell?_alloc_at, World.cell?_alloc_past, World.frozen?_alloc_at, World.frozen?_alloc_past] at k6_0 f6_0); have l6_1 : w.heap.size + 1 < w6.heap.size := (by omega); have n6_1 : ¬ w.heap.size + 1 = w6.heap.size := (by omega); have m6_1 : ¬ w6.heap.size = w.heap.size + 1 := (by omega); have k6_1 := fun o => hc6 (w.heap.size + 1) o (by omega); have f6_1 := fun o => hf6 (w.heap.size + 1) o (by omega); (try simp (disch := (first | rfl | omega | (simp only [sz_alloc, sz_drew, sz_set]; omega))) only [sz_alloc, sz_drew, sz_set, World.cell?_drew, World.frozen?_drew, World.cell?_alloc_at, World.cell?_alloc_past, World.frozen?_alloc_at, World.frozen?_alloc_past] at k6_1 f6_1); have l6_2 : w.heap.size + 1 + 1 < w6.heap.size := (by omega); have n6_2 : ¬ w.heap.size + 1 + 1 = w6.heap.size := (by omega); have m6_2 : ¬ w6.heap.size = w.heap.size + 1 + 1 := (by omega); have k6_2 := fun o => hc6 (w.heap.size + 1 + 1) o (by omega); have f6_2 := fun o => hf6 (w.heap.size + 1 + 1) o (by omega); (try simp (disch := (first | rfl | omega | (simp only [sz_alloc, sz_drew, sz_set]; omega))) only [sz_alloc, sz_drew, sz_set, World.cell?_drew, World.frozen?_drew, World.cell?_alloc_at, World.cell?_alloc_past, World.frozen?_alloc_at, World.frozen?_alloc_past] at k6_2 f6_2)
        clear hc6 hf6
        have HS := Lib.hid (rsticky_le B.mag (xa - xb).toNat (by have := hm.out; omega) (by have := hm.out; omega))
        have hE := eqW_of hwA.out hI6.out
        have hxe : Hid (A.exp - B.exp = xa - xb) := by show A.exp - B.exp = xa - xb; rw [hA.out.2.2.1, hB.out.2.2.1]
        by_cases hs : ma = mb
        · have hb1 : (ma == mb) = true := by rw [beq_iff_eq]; exact hs
          have HT2 : Hid (totalN M N = ⟨A.cls, A.minus, A.exp, A.mag + rsticky B.mag (xa - xb).toNat⟩) := by
            show totalN M N = _
            rw [hT.out]; unfold addN; simp only [hxe.out]
            rw [if_pos (by rw [← hA.out.2.1, ← hB.out.2.1]; exact hs)]
          have HSS := Lib.hid hs; clear hs hE
          go_wp2_with fail
          refine (plus_c _ _ A.mag _ _ _ hwA hI6 (by have := hm.out; have := HS.out.1; unfold Fits; omega) _).mono ?_
          rintro e w7 ⟨h7, l7, rfl, hI7, hb7⟩
          obtain ⟨hc7, hf7⟩ := bcell hb7; have hz7 := hb7.size; (try simp only [sz_alloc, sz_drew, sz_set] at hz7 hc7 hf7); have l7_0 : w.heap.size < w7.heap.size := (by omega); have n7_0 : ¬ w.heap.size = w7.heap.size := (by omega); have m7_0 : ¬ w7.heap.size = w.heap.size := (by omega); have k7_0 := fun o => hc7 (w.heap.size) o (by omega); have f7_0 := fun o => hf7 (w.heap.size) o (by omega); (try simp (disch := (first | rfl | omega | (simp only [sz_alloc, sz_drew, sz_set]; omega))) only [sz_alloc, sz_drew, sz_set, World.cell?_drew, World.frozen?_drew, World.cell?_alloc_at, World.cell?_alloc_past, World.frozen?_alloc_at, World.frozen?_alloc_past, hc6, hf6] at k7_0 f7_0); have l7_1 : w.heap.size + 1 < w7.heap.size := (by omega); have n7_1 : ¬ w.heap.size + 1 = w7.heap.size := (by omega); have m7_1 : ¬ w7.heap.size = w.heap.size + 1 := (by omega); have k7_1 := fun o => hc7 (w.heap.size + 1) o (by omega); have f7_1 := fun o => hf7 (w.heap.size + 1) o (by omega); (try simp (disch := (first | rfl | omega | (simp only [sz_alloc, sz_drew, sz_set]; omega))) only [sz_alloc, sz_drew, sz_set, World.cell?_drew, World.frozen?_drew, World.cell?_alloc_at, World.cell?_alloc_past, World.frozen?_alloc_at, World.frozen?_alloc_past, hc6, hf6] at k7_1 f7_1); have l7_2 : w.heap.size + 1 + 1 < w7.heap.size := (by omega); have n7_2 : ¬ w.heap.size + 1 + 1 = w7.heap.size := (by omega); have m7_2 : ¬ w7.heap.size = w.heap.size + 1 + 1 := (by omega); have k7_2 := fun o => hc7 (w.heap.size + 1 + 1) o (by omega); have f7_2 := fun o => hf7 (w.heap.size + 1 + 1) o (by omega); (try simp (disch := (first | rfl | omega | (simp only [sz_alloc, sz_drew, sz_set]; omega))) only [sz_alloc, sz_drew, sz_set, World.cell?_drew, World.frozen?_drew, World.cell?_alloc_at, World.cell?_alloc_past, World.frozen?_alloc_at, World.frozen?_alloc_past, hc6, hf6] at k7_2 f7_2)
          clear hc7 hf7
          go_wp2_with fail
          refine bodyPost_ret (v := .agg #[_, _, _, _, _]) (by simp [results, Try.results103, go_sem, k7_2, k6_2, r0, r1, r2, r3, r4, sz_set] <;> (first | rfl | (repeat' (first | rfl | apply And.intro)))) rfl (retN_mk ?_ rfl rfl (by repeat (first | (with_reducible first | exact Below.refl _ _ | assumption | exact Nat.le_refl _ | refine Below.drew ?_ | refine Below.alloc ?_ ?_ _ | refine Below.setCell ?_ ?_ _ | refine le_alloc ?_ | refine le_set ?_ | refine le_drew ?_ | refine below_step (by assumption) ?_ ?_ | refine le_below (by assumption) ?_) | (dsimp only; omega))))
          rw [HT2.out]
          exact ⟨hA.out.1, hA.out.2.1, hA.out.2.2.1, hI7.out⟩
        · have hb1 : (ma == mb) = false := by rw [beq_eq_false_iff_ne]; exact hs
          have HSS := Lib.hid hs; clear hs
          by_cases hq : A.mag = rsticky B.mag (xa - xb).toNat
          · have HT2 : Hid (totalN M N = ⟨0, false, 0, 0⟩) := by
              show totalN M N = _
              rw [hT.out]; unfold addN; simp only [hxe.out]
              rw [if_neg (by rw [← hA.out.2.1, ← hB.out.2.1]; exact HSS.out), if_pos hq]
            rw [decide_eq_true hq] at hE
            clear hq
            go_wp2_with fail
            refine bodyPost_ret (v := .agg #[_, _, _, _, _]) (by simp [results, Try.results103, go_sem, k6_2, r0, r1, r2, r3, r4, sz_set] <;> (first | rfl | (repeat' (first | rfl | apply And.intro)))) rfl (retN_mk ?_ rfl rfl (by repeat (first | (with_reducible first | exact Below.refl _ _ | assumption | exact Nat.le_refl _ | refine Below.drew ?_ | refine Below.alloc ?_ ?_ _ | refine Below.setCell ?_ ?_ _ | refine le_alloc ?_ | refine le_set ?_ | refine le_drew ?_ | refine below_step (by assumption) ?_ ?_ | refine le_below (by assumption) ?_) | (dsimp only; omega))))
            rw [HT2.out]
            exact ⟨rfl, rfl, rfl, by decide, by decide, rfl⟩
          · have HT2 : Hid (totalN M N = ⟨A.cls, A.minus, A.exp, A.mag - rsticky B.mag (xa - xb).toNat⟩) := by
              show totalN M N = _
              rw [hT.out]; unfold addN; simp only [hxe.out]
              rw [if_neg (by rw [← hA.out.2.1, ← hB.out.2.1]; exact HSS.out), if_neg hq]
            have HLE : Hid (rsticky B.mag (xa - xb).toNat ≤ A.mag) := by
              show _ ≤ _
              have h1 := HS.out; have h2 := hm.out; have h3 := hle.out
              by_cases hx : xa = xb
              · exact Nat.le_trans h1.1 (h3 hx)
              · have := h1.2 (by omega); omega
            rw [decide_eq_false hq] at hE
            clear hq
            go_wp2_with fail
            refine (minus_c _ _ A.mag _ _ _ hwA hI6 HLE.out _).mono ?_
            rintro e w7 ⟨h7, l7, rfl, hI7, hb7⟩
            obtain ⟨hc7, hf7⟩ := bcell hb7; have hz7 := hb7.size; (try simp only [sz_alloc, sz_drew, sz_set] at hz7 hc7 hf7); have l7_0 : w.heap.size < w7.heap.size := (by omega); have n7_0 : ¬ w.heap.size = w7.heap.size := (by omega); have m7_0 : ¬ w7.heap.size = w.heap.size := (by omega); have k7_0 := fun o => hc7 (w.heap.size) o (by omega); have f7_0 := fun o => hf7 (w.heap.size) o (by omega); (try simp (disch := (first | rfl | omega | (simp only [sz_alloc, sz_drew, sz_set]; omega))) only [sz_alloc, sz_drew, sz_set, World.cell?_drew, World.frozen?_drew, World.cell?_alloc_at, World.cell?_alloc_past, World.frozen?_alloc_at, World.frozen?_alloc_past, hc6, hf6] at k7_0 f7_0); have l7_1 : w.heap.size + 1 < w7.heap.size := (by omega); have n7_1 : ¬ w.heap.size + 1 = w7.heap.size := (by omega); have m7_1 : ¬ w7.heap.size = w.heap.size + 1 := (by omega); have k7_1 := fun o => hc7 (w.heap.size + 1) o (by omega); have f7_1 := fun o => hf7 (w.heap.size + 1) o (by omega); (try simp (disch := (first | rfl | omega | (simp only [sz_alloc, sz_drew, sz_set]; omega))) only [sz_alloc, sz_drew, sz_set, World.cell?_drew, World.frozen?_drew, World.cell?_alloc_at, World.cell?_alloc_past, World.frozen?_alloc_at, World.frozen?_alloc_past, hc6, hf6] at k7_1 f7_1); have l7_2 : w.heap.size + 1 + 1 < w7.heap.size := (by omega); have n7_2 : ¬ w.heap.size + 1 + 1 = w7.heap.size := (by omega); have m7_2 : ¬ w7.heap.size = w.heap.size + 1 + 1 := (by omega); have k7_2 := fun o => hc7 (w.heap.size + 1 + 1) o (by omega); have f7_2 := fun o => hf7 (w.heap.size + 1 + 1) o (by omega); (try simp (disch := (first | rfl | omega | (simp only [sz_alloc, sz_drew, sz_set]; omega))) only [sz_alloc, sz_drew, sz_set, World.cell?_drew, World.frozen?_drew, World.cell?_alloc_at, World.cell?_alloc_past, World.frozen?_alloc_at, World.frozen?_alloc_past, hc6, hf6] at k7_2 f7_2)
            clear hc7 hf7
            go_wp2_with fail
            refine bodyPost_ret (v := .agg #[_, _, _, _, _]) (by simp [results, Try.results103, go_sem, k7_2, k6_2, r0, r1, r2, r3, r4, sz_set] <;> (first | rfl | (repeat' (first | rfl | apply And.intro)))) rfl (retN_mk ?_ rfl rfl (by repeat (first | (with_reducible first | exact Below.refl _ _ | assumption | exact Nat.le_refl _ | refine Below.drew ?_ | refine Below.alloc ?_ ?_ _ | refine Below.setCell ?_ ?_ _ | refine le_alloc ?_ | refine le_set ?_ | refine le_drew ?_ | refine below_step (by assumption) ?_ ?_ | refine le_below (by assumption) ?_) | (dsimp only; omega))))
            rw [HT2.out]
            exact ⟨hA.out.1, hA.out.2.1, hA.out.2.2.1, hI7.out⟩
end Go.Proofs.Yteinjalnkhfecaa.Q
