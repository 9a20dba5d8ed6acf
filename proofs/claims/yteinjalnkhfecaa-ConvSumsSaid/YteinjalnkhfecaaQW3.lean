/- Taken from other texts: what is needed of them besides. -/
import Derived.Test.YteinjalnkhfecaaQW1
import Derived.WalkKit
import Derived.Laws.BitsAllLaws
import Derived.Laws.Bits64
import Derived.Laws.Bits64b
import Derived.Lib.ItoaNum
import Derived.ProofKit
import Derived.OpenShut
import Derived.WalkLawsBesides
import Derived.WalkSpells
import Derived.RegionTactic
import Derived.ChangeAlike
import Derived.Outline
import Derived.Laws.Externs
import Derived.Lib.Hide
import Derived.Shelf.Spec.BitsCarry
import Derived.Deep.RegionHeld3
import Derived.Laws.StructEq
import Derived.Deep.DeepCutAuto
import Derived.Deep.RegionWith
import Derived.Deep.CutBlock
import Derived.Deep.QuietTactic
import Derived.BigQuiet
import Derived.ChangeSame
import Derived.Laws.AppendOwn
import Derived.Laws.OwnMore
import Derived.Maps.AppendAt
import Derived.OwnWalk
import Derived.LoopN
import Derived.Lib.QuietBelow
import Derived.StillTailTactics
namespace Go.Proofs.Yteinjalnkhfecaa.Q
open Go.ChangeShapes Go.WideShapes Go.ChangeAt Go.RowKit
set_option linter.unusedVariables false
set_option linter.unusedSimpArgs false
def RetC (rm : Int) (m : Bool) (x n : Nat) (W : World) (e : Ending) (w' : World) : Prop := e = .returned (.tuple #[.int .u64 (cutK rm m x n : Nat), .bool (diffV x n)]) ∧ Below W.heap.size W w'
theorem retC_mk {rm : Int} {m : Bool} {x n : Nat} {a : Int} {b : Bool} {W w' : World} (ha : a = (cutK rm m x n : Nat)) (hb : b = diffV x n) (h : Below W.heap.size W w') : RetC rm m x n W (.returned (.tuple #[.int .u64 a, .bool b])) w' := ⟨by rw [ha, hb], h⟩
theorem bne_dec (a : Int) : (a != 0) = decide (a ≠ 0) := by rw [Bool.eq_iff_iff]; simp
set_option maxHeartbeats 1000000 in
theorem cut_c (rm : Int) (m : Bool) (h l x : Nat) (n : Nat) (hx : Hid (IsW h l x)) (h0 : Hid (x ≠ 0)) (hn1 : 1 ≤ n) (hn2 : n ≤ 60000) (hk : Hid (x / 2 ^ n < 4611686018427387904)) (w : World) :
    Calls Try.prog 119 #[.int .i64 rm, .bool m, .agg #[.int .u64 h, .int .u64 l], .int .i64 n] w (RetC rm m x n w) := by
  go_enter Try.func119, Try.ntmps119
  go_wp2_with fail
  refine (split_c _ _ x n hx h0 hn1 hn2 (by have := hk.out; show _ < _; omega) _).mono ?_
  rintro e w1 ⟨rfl, hb1⟩
  have HK := hk.out
  have HC : Hid (cutK rm m x n = x / 2 ^ n + (if awayV rm m (x / 2 ^ n) (restV x n) then 1 else 0)) := rfl
  revert HK HC
  generalize x / 2 ^ n = q
  intro HK HC
  have hk2 := Lib.hid HK; clear HK
  go_wp2_with fail
  refine (away_c rm m q (restV x n) (by have := hk2.out; show _ < _; omega) _).mono ?_
  rintro e w2 ⟨rfl, hb2⟩
  generalize ha : awayV rm m q (restV x n) = a
  have HA := Lib.hid ha; clear ha
  cases a
  · go_wp2_with fail
    go_ret2
    exact retC_mk (by rw [HC.out, HA.out]; simp) (bne_dec _) (by repeat (first | (with_reducible first | exact Below.refl _ _ | assumption | exact Nat.le_refl _ | refine Below.drew ?_ | refine Below.alloc ?_ ?_ _ | refine Below.setCell ?_ ?_ _ | refine le_alloc ?_ | refine le_set ?_ | refine le_drew ?_ | refine below_step (by assumption) ?_ ?_ | refine le_below (by assumption) ?_) | (dsimp only; omega)))
  · go_wp2_with fail
    go_ret2
    exact retC_mk (by rw [HC.out, HA.out, if_pos rfl, show ((q : Int) + 1) = ((q + 1 : Nat) : Int) by omega, wrapN, Nat.mod_eq_of_lt (by have := hk2.out; omega)]) (bne_dec _) (by repeat (first | (with_reducible first | exact Below.refl _ _ | assumption | exact Nat.le_refl _ | refine Below.drew ?_ | refine Below.alloc ?_ ?_ _ | refine Below.setCell ?_ ?_ _ | refine le_alloc ?_ | refine le_set ?_ | refine le_drew ?_ | refine below_step (by assumption) ?_ ?_ | refine le_below (by assumption) ?_) | (dsimp only; omega)))
theorem cut_i (rm : Int) (m : Bool) (h l x : Nat) (n : Int) (hx : Hid (IsW h l x)) (h0 : Hid (x ≠ 0)) (hn1 : 1 ≤ n) (hn2 : n ≤ 60000) (hk : Hid (x / 2 ^ n.toNat < 4611686018427387904)) (w : World) :
    Calls Try.prog 119 #[.int .i64 rm, .bool m, .agg #[.int .u64 h, .int .u64 l], .int .i64 n] w (RetC rm m x n.toNat w) := by
  obtain ⟨n, rfl⟩ := Int.eq_ofNat_of_zero_le (by omega : 0 ≤ n)
  rw [Int.toNat_natCast] at hk ⊢
  exact cut_c rm m h l x n hx h0 (by omega) (by omega) hk w
theorem shr_small (x n : Nat) (h : x < 2 ^ 128) (hn : 75 ≤ n) : x / 2 ^ n < 4611686018427387904 := by
  have : x / 2 ^ n ≤ x / 2 ^ 75 := Nat.div_le_div_left (Nat.pow_le_pow_right (by decide) hn) (by decide)
  omega
theorem beyond_c (d : Bool) (E F : Int) (hd : Lay d E F) (rm : Int) (m : Bool) (w : World) :
    Calls Try.prog 120 #[.agg #[.int .i64 E, .int .i64 F], .int .i64 rm, .bool m] w (RetU (beyondV d rm m) w) := by
  go_enter Try.func120, Try.ntmps120
  go_wp2_with fail
  refine (away_c rm m 0 3 (by show 0 < 18446744073709551616; decide) _).mono ?_
  rintro e w1 ⟨rfl, hb1⟩
  obtain ⟨hc1, hf1⟩ := bcell hb1; have hz1 := hb1.size; (try simp only [sz_alloc, sz_drew, sz_set] at hz1 hc1 hf1); have l1_0 : w.heap.size < w1.heap.size := (by omega); have n1_0 : ¬ w.heap.size = w1.heap.size := (by omega); have m1_0 : ¬ w1.heap.size = w.heap.size := (by omega); have k1_0 := fun o => hc1 (w.heap.size) o (by omega); have f1_0 := fun o => hf1 (w.heap.size) o (by omega); (try simp (disch := (first | rfl | omega | (simp only [sz_alloc, sz_drew, sz_set]; omega))) only [sz_alloc, sz_drew, sz_set, World.cell?_drew, World.frozen?_drew, World.cell?_alloc_at, World.cell?_alloc_past, World.frozen?_alloc_at, World.frozen?_alloc_past] at k1_0 f1_0)
  have HV : Hid (beyondV d rm m = if awayV rm m 0 3 then infV d m else infV d m - 1) := rfl
  generalize ha : awayV rm m 0 3 = a
  rw [ha] at HV; clear ha
  cases a
  · go_wp2_with fail
    refine (greatest_c d E F hd m _).mono ?_
    rintro e w2 ⟨rfl, hb2⟩
    go_wp2_with fail
    go_ret
    exact retU_mk (by rw [HV.out]; rfl) (by repeat (first | (with_reducible first | exact Below.refl _ _ | assumption | exact Nat.le_refl _ | refine Below.drew ?_ | refine Below.alloc ?_ ?_ _ | refine Below.setCell ?_ ?_ _ | refine le_alloc ?_ | refine le_set ?_ | refine le_drew ?_ | refine below_step (by assumption) ?_ ?_ | refine le_below (by assumption) ?_) | (dsimp only; omega)))
  · go_wp2_with fail
    refine (infinity_c d E F hd m _).mono ?_
    rintro e w2 ⟨rfl, hb2⟩
    go_wp2_with fail
    go_ret
    exact retU_mk (by rw [HV.out]; rfl) (by repeat (first | (with_reducible first | exact Below.refl _ _ | assumption | exact Nat.le_refl _ | refine Below.drew ?_ | refine Below.alloc ?_ ?_ _ | refine Below.setCell ?_ ?_ _ | refine le_alloc ?_ | refine le_set ?_ | refine le_drew ?_ | refine below_step (by assumption) ?_ ?_ | refine le_below (by assumption) ?_) | (dsimp only; omega)))
def At2 (w : World) (b : Nat) (E F : Int) : Prop := w.cell? ⟨b, 0, none⟩ = some (.int .i64 E) ∧ w.cell? ⟨b, 1, none⟩ = some (.int .i64 F)
theorem val0_f (k : Nat) : (-126 + (127 - 1) : Int).toNat * 8388608 + k = k := by rw [show (-126 + (127 - 1) : Int).toNat = 0 from rfl]; omega
theorem hid0_f (k : Nat) (h : k ≤ 2 * 8388608) : Hid ((-126 + (127 - 1) : Int).toNat * 8388608 + k < 2147483648) := by show _ < _; rw [val0_f]; omega
set_option maxRecDepth 100000 in
set_option maxHeartbeats 4000000 in
theorem round_f (rm : Int) (c : Int) (m : Bool) (x : Int) (h l : Nat) (N : Num) (hN : Hid (IsN c m x h l N)) (a1 : -10000 ≤ x) (a2 : x ≤ 10000) (z1 : Hid (N.mag ≠ 0)) (y1 : Hid (blen N.mag ≤ 128)) (w : World) :
    Calls Try.prog 108 #[.agg #[.int .i64 8, .int .i64 23], .int .i64 rm, .agg #[.int .i64 c, .bool m, .int .i64 x, .int .u64 h, .int .u64 l]] w (RetP (roundF false rm N) w) := by
  go_enter Try.func108, Try.ntmps108
  go_upto_region 1 with fail
  go_cut [] (fun wx => ∃ (c1 : Int) (m1 : Bool) (x1 : Int) (h1 l1 : Nat), Hid (IsN c1 m1 x1 h1 l1 (raisedN N 127)) ∧ At2 wx w.heap.size 8 23 ∧ At5 wx (w.heap.size + 1) c1 m1 x1 h1 l1 ∧ Below w.heap.size w wx ∧ w.heap.size + 1 + 1 ≤ wx.heap.size)
  case first =>
    go_wp2_with fail
    refine (raised_c c m x h l N 127 hN (by decide) (by decide) (by have := y1.out; omega) (by omega) (by omega) _).mono ?_
    rintro e w1 ⟨c1, m1, x1, h1, l1, rfl, hI1, hb1⟩
    obtain ⟨hc1, hf1⟩ := bcell hb1; have hz1 := hb1.size; (try simp only [sz_alloc, sz_drew, sz_set] at hz1 hc1 hf1); have l1_0 : w.heap.size < w1.heap.size := (by omega); have n1_0 : ¬ w.heap.size = w1.heap.size := (by omega); have m1_0 : ¬ w1.heap.size = w.heap.size := (by omega); have k1_0 := fun o => hc1 (w.heap.size) o (by omega); have f1_0 := fun o => hf1 (w.heap.size) o (by omega); (try simp (disch := (first | rfl | omega | (simp only [sz_alloc, sz_drew, sz_set]; omega))) only [sz_alloc, sz_drew, sz_set, World.cell?_drew, World.frozen?_drew, World.cell?_alloc_at, World.cell?_alloc_past, World.frozen?_alloc_at, World.frozen?_alloc_past] at k1_0 f1_0); have l1_1 : w.heap.size + 1 < w1.heap.size := (by omega); have n1_1 : ¬ w.heap.size + 1 = w1.heap.size := (by omega); have m1_1 : ¬ w1.heap.size = w.heap.size + 1 := (by omega); have k1_1 := fun o => hc1 (w.heap.size + 1) o (by omega); have f1_1 := fun o => hf1 (w.heap.size + 1) o (by omega); (try simp (disch := (first | rfl | omega | (simp only [sz_alloc, sz_drew, sz_set]; omega))) only [sz_alloc, sz_drew, sz_set, World.cell?_drew, World.frozen?_drew, World.cell?_alloc_at, World.cell?_alloc_past, World.frozen?_alloc_at, World.frozen?_alloc_past] at k1_1 f1_1)
    clear hc1 hf1
    go_wp2_with fail
    go_meet
    refine ⟨c1, m1, x1, h1, l1, hI1, ⟨?_, ?_⟩, ⟨?_, ?_, ?_, ?_, ?_, ?_⟩, (by repeat (first | (with_reducible first | exact Below.refl _ _ | assumption | exact Nat.le_refl _ | refine Below.drew ?_ | refine Below.alloc ?_ ?_ _ | refine Below.setCell ?_ ?_ _ | refine le_alloc ?_ | refine le_set ?_ | refine le_drew ?_ | refine below_step (by assumption) ?_ ?_ | refine le_below (by assumption) ?_) | (dsimp only; omega))), ?_⟩
    all_goals (first | (simp only [sz_set, sz_drew]; omega) | (go_simp; done) | (simp (disch := omega) [*, cell_set_far]; done))
  case rest =>
    obtain ⟨c1, m1, x1, h1, l1, hI1, ⟨p0, p1⟩, ⟨q0, q1, q2, q3, q4, q5⟩, hbc, hzc⟩ := hcut
    have B1 : Hid (x1 = (raisedN N 127).exp ∧ (raisedN N 127).exp = x - (128 - (blen N.mag : Int))) := ⟨hI1.out.2.2.1, by rw [hN.out.2.2.1]; rfl⟩
    have o1 : -11000 ≤ x1 := by have := B1.out; omega
    have o2 : x1 ≤ 11000 := by have := B1.out; have := y1.out; omega
    have hW : Hid (IsW h1 l1 (raisedN N 127).mag) := hI1.out.2.2.2
    have RM : Hid (2 ^ 127 ≤ (raisedN N 127).mag ∧ (raisedN N 127).mag < 2 ^ 128) := (raised_mag z1.out (by decide : 127 ≤ 127) y1.out).2
    have MM : Hid (m1 = (raisedN N 127).minus) := hI1.out.2.1
    have XX : Hid (x1 = (raisedN N 127).exp) := hI1.out.2.2.1
    have HRF : Hid (roundF false rm N = roundX false rm m1 x1 (raisedN N 127).mag) := by
      show _ = _; unfold roundF roundX; rw [MM.out, XX.out]
    revert hW RM HRF
    generalize (raisedN N 127).mag = mg
    intro hW RM HRF
    go_wp2_with fail
    go_region
    go_wp2_with fail
    refine (cut_i rm m1 h1 l1 mg _ hW (by have := RM.out; show _ ≠ _; omega) (by decide) (by decide) (shr_small _ _ RM.out.2 (by decide)) _).mono ?_
    rintro e w2 ⟨rfl, hb2⟩
    obtain ⟨hc2, hf2⟩ := bcell hb2; have hz2 := hb2.size; (try simp only [sz_alloc, sz_drew, sz_set] at hz2 hc2 hf2); have l2_0 : w.heap.size < w2.heap.size := (by omega); have n2_0 : ¬ w.heap.size = w2.heap.size := (by omega); have m2_0 : ¬ w2.heap.size = w.heap.size := (by omega); have k2_0 := fun o => hc2 (w.heap.size) o (by omega); have f2_0 := fun o => hf2 (w.heap.size) o (by omega); (try simp (disch := (first | rfl | omega | (simp only [sz_alloc, sz_drew, sz_set]; omega))) only [sz_alloc, sz_drew, sz_set, World.cell?_drew, World.frozen?_drew, World.cell?_alloc_at, World.cell?_alloc_past, World.frozen?_alloc_at, World.frozen?_alloc_past] at k2_0 f2_0); have l2_1 : w.heap.size + 1 < w2.heap.size := (by omega); have n2_1 : ¬ w.heap.size + 1 = w2.heap.size := (by omega); have m2_1 : ¬ w2.heap.size = w.heap.size + 1 := (by omega); have k2_1 := fun o => hc2 (w.heap.size + 1) o (by omega); have f2_1 := fun o => hf2 (w.heap.size + 1) o (by omega); (try simp (disch := (first | rfl | omega | (simp only [sz_alloc, sz_drew, sz_set]; omega))) only [sz_alloc, sz_drew, sz_set, World.cell?_drew, World.frozen?_drew, World.cell?_alloc_at, World.cell?_alloc_past, World.frozen?_alloc_at, World.frozen?_alloc_past] at k2_1 f2_1)
    clear hc2 hf2
    have HKL : Hid (cutK rm m1 mg 104 ≤ 16777216) := cutK_le rm m1 mg 104 128 RM.out.2 (by decide)
    have HX : Hid (roundX false rm m1 x1 mg = roundY false rm m1 x1 mg (cutK rm m1 mg 104) (diffV mg 104)) := rfl
    revert HKL HX
    rw [show (104 : Int).toNat = 104 from rfl]
    generalize cutK rm m1 mg 104 = k
    generalize diffV mg 104 = df
    intro HKL HX
    have HCV : Hid (k / 16777216 ≤ 1) := by have := HKL.out; show _ ≤ _; omega
    have HDV : Hid ((k : Int) / 16777216 = ((k / 16777216 : Nat) : Int)) := by show _ = _; omega
    have HBB : Hid (bias false = 127) := rfl
    have HXX : Hid (roundY false rm m1 x1 mg k df =
      if (127 : Int) < x1 + 127 + ((k / 16777216 : Nat) : Int) then (beyondV false rm m1, 5)
      else if x1 + 127 < 1 - 127 then
        (noughtV false m1 + cutK rm m1 mg (104 + (1 - 127 - (x1 + 127)).toNat), if restV mg (104 + (1 - 127 - (x1 + 127)).toNat) = 0 then 0 else (if x1 + 127 + ((k / 16777216 : Nat) : Int) < 1 - 127 then 3 else 1))
      else (noughtV false m1 + ((x1 + 127 + (127 - 1)).toNat * 8388608 + k), if df then 1 else 0)) := rfl
    go_wp2_with fail
    rw [HDV.out]
    revert HCV HXX
    generalize hcv : k / 16777216 = cv
    intro HCV HXX
    have HV := Lib.hid hcv; clear hcv HDV
    have hcv1 : cv ≤ 1 := HCV.out
    rw [wrap64_nat cv (by omega), show x1 + 128 - 1 = x1 + 127 by omega, IntWalk.wrap64_in (x1 + 127 + (cv : Int)) ⟨by omega, by omega⟩]
    refine (most_c false _ _ (.inl ⟨rfl, rfl, rfl⟩) _).mono ?_
    rintro e w3 ⟨rfl, hb3⟩
    obtain ⟨hc3, hf3⟩ := bcell hb3; have hz3 := hb3.size; (try simp only [sz_alloc, sz_drew, sz_set] at hz3 hc3 hf3); have l3_0 : w.heap.size < w3.heap.size := (by omega); have n3_0 : ¬ w.heap.size = w3.heap.size := (by omega); have m3_0 : ¬ w3.heap.size = w.heap.size := (by omega); have k3_0 := fun o => hc3 (w.heap.size) o (by omega); have f3_0 := fun o => hf3 (w.heap.size) o (by omega); (try simp (disch := (first | rfl | omega | (simp only [sz_alloc, sz_drew, sz_set]; omega))) only [sz_alloc, sz_drew, sz_set, World.cell?_drew, World.frozen?_drew, World.cell?_alloc_at, World.cell?_alloc_past, World.frozen?_alloc_at, World.frozen?_alloc_past, hc2, hf2] at k3_0 f3_0); have l3_1 : w.heap.size + 1 < w3.heap.size := (by omega); have n3_1 : ¬ w.heap.size + 1 = w3.heap.size := (by omega); have m3_1 : ¬ w3.heap.size = w.heap.size + 1 := (by omega); have k3_1 := fun o => hc3 (w.heap.size + 1) o (by omega); have f3_1 := fun o => hf3 (w.heap.size + 1) o (by omega); (try simp (disch := (first | rfl | omega | (simp only [sz_alloc, sz_drew, sz_set]; omega))) only [sz_alloc, sz_drew, sz_set, World.cell?_drew, World.frozen?_drew, World.cell?_alloc_at, World.cell?_alloc_past, World.frozen?_alloc_at, World.frozen?_alloc_past, hc2, hf2] at k3_1 f3_1)
    clear hc3 hf3
    rw [HBB.out]
    by_cases t1 : (127 : Int) < x1 + 127 + cv
    · have HR : Hid (roundY false rm m1 x1 mg k df = (beyondV false rm m1, 5)) := by show _ = _; rw [HXX.out, if_pos t1]
      go_wp2_with fail
      refine (beyond_c false _ _ (.inl ⟨rfl, rfl, rfl⟩) rm m1 _).mono ?_
      rintro e w4 ⟨rfl, hb4⟩
      go_wp2_with fail
      go_ret2
      exact retP_mk (by rw [HRF.out, HX.out, HR.out]) (by rw [HRF.out, HX.out, HR.out]) (by repeat (first | (with_reducible first | exact Below.refl _ _ | assumption | exact Nat.le_refl _ | refine Below.drew ?_ | refine Below.alloc ?_ ?_ _ | refine Below.setCell ?_ ?_ _ | refine le_alloc ?_ | refine le_set ?_ | refine le_drew ?_ | refine below_step (by assumption) ?_ ?_ | refine le_below (by assumption) ?_) | (dsimp only; omega)))
    · go_wp2_with fail
      refine (least_c false _ _ (.inl ⟨rfl, rfl, rfl⟩) _).mono ?_
      rintro e w4 ⟨rfl, hb4⟩
      obtain ⟨hc4, hf4⟩ := bcell hb4; have hz4 := hb4.size; (try simp only [sz_alloc, sz_drew, sz_set] at hz4 hc4 hf4); have l4_0 : w.heap.size < w4.heap.size := (by omega); have n4_0 : ¬ w.heap.size = w4.heap.size := (by omega); have m4_0 : ¬ w4.heap.size = w.heap.size := (by omega); have k4_0 := fun o => hc4 (w.heap.size) o (by omega); have f4_0 := fun o => hf4 (w.heap.size) o (by omega); (try simp (disch := (first | rfl | omega | (simp only [sz_alloc, sz_drew, sz_set]; omega))) only [sz_alloc, sz_drew, sz_set, World.cell?_drew, World.frozen?_drew, World.cell?_alloc_at, World.cell?_alloc_past, World.frozen?_alloc_at, World.frozen?_alloc_past, hc3, hc2, hf3, hf2] at k4_0 f4_0); have l4_1 : w.heap.size + 1 < w4.heap.size := (by omega); have n4_1 : ¬ w.heap.size + 1 = w4.heap.size := (by omega); have m4_1 : ¬ w4.heap.size = w.heap.size + 1 := (by omega); have k4_1 := fun o => hc4 (w.heap.size + 1) o (by omega); have f4_1 := fun o => hf4 (w.heap.size + 1) o (by omega); (try simp (disch := (first | rfl | omega | (simp only [sz_alloc, sz_drew, sz_set]; omega))) only [sz_alloc, sz_drew, sz_set, World.cell?_drew, World.frozen?_drew, World.cell?_alloc_at, World.cell?_alloc_past, World.frozen?_alloc_at, World.frozen?_alloc_past, hc3, hc2, hf3, hf2] at k4_1 f4_1)
      clear hc4 hf4
      rw [HBB.out]
      have hkl := HKL.out
      by_cases t2 : x1 + 127 < 1 - 127
      · have HNN : Hid ((-22 - (x1 + 127)).toNat = 104 + (1 - 127 - (x1 + 127)).toNat) := by show _ = _; omega
        have HS3 : Hid (mg / 2 ^ (-22 - (x1 + 127)).toNat < 4611686018427387904) := shr_small _ _ RM.out.2 (by omega)
        have HK2 : Hid (cutK rm m1 mg (-22 - (x1 + 127)).toNat ≤ 16777216) := by
          have h1 := cutK_le rm m1 mg (-22 - (x1 + 127)).toNat (128 + (1 - 127 - (x1 + 127)).toNat) (Nat.lt_of_lt_of_le RM.out.2 (Nat.pow_le_pow_right (by decide) (by omega))) (by omega)
          rw [show 128 + (1 - 127 - (x1 + 127)).toNat - (-22 - (x1 + 127)).toNat = 24 by omega] at h1
          exact h1
        have HZ : Hid (mg ≠ 0) := by have := RM.out; show _ ≠ _; omega
        have HR0 := HXX.out
        rw [if_neg (by omega), if_pos (by omega), ← HNN.out] at HR0
        have ew1 : IntKind.i64.wrap (-22) = -22 := IntWalk.i64_in _ (by omega)
        have ew2 : IntKind.i64.wrap (-22 - (x1 + 127)) = -22 - (x1 + 127) := IntWalk.i64_in _ (by omega)
        have HR := Lib.hid HR0; clear HR0 hkl
        go_wp2_with fail
        refine (least_c false _ _ (.inl ⟨rfl, rfl, rfl⟩) _).mono ?_
        rintro e w5 ⟨rfl, hb5⟩
        obtain ⟨hc5, hf5⟩ := bcell hb5; have hz5 := hb5.size; (try simp only [sz_alloc, sz_drew, sz_set] at hz5 hc5 hf5); have l5_0 : w.heap.size < w5.heap.size := (by omega); have n5_0 : ¬ w.heap.size = w5.heap.size := (by omega); have m5_0 : ¬ w5.heap.size = w.heap.size := (by omega); have k5_0 := fun o => hc5 (w.heap.size) o (by omega); have f5_0 := fun o => hf5 (w.heap.size) o (by omega); (try simp (disch := (first | rfl | omega | (simp only [sz_alloc, sz_drew, sz_set]; omega))) only [sz_alloc, sz_drew, sz_set, World.cell?_drew, World.frozen?_drew, World.cell?_alloc_at, World.cell?_alloc_past, World.frozen?_alloc_at, World.frozen?_alloc_past, hc4, hc3, hc2, hf4, hf3, hf2] at k5_0 f5_0); have l5_1 : w.heap.size + 1 < w5.heap.size := (by omega); have n5_1 : ¬ w.heap.size + 1 = w5.heap.size := (by omega); have m5_1 : ¬ w5.heap.size = w.heap.size + 1 := (by omega); have k5_1 := fun o => hc5 (w.heap.size + 1) o (by omega); have f5_1 := fun o => hf5 (w.heap.size + 1) o (by omega); (try simp (disch := (first | rfl | omega | (simp only [sz_alloc, sz_drew, sz_set]; omega))) only [sz_alloc, sz_drew, sz_set, World.cell?_drew, World.frozen?_drew, World.cell?_alloc_at, World.cell?_alloc_past, World.frozen?_alloc_at, World.frozen?_alloc_past, hc4, hc3, hc2, hf4, hf3, hf2] at k5_1 f5_1)
        clear hc5 hf5
        rw [HBB.out]
        by_cases t3 : x1 + 127 + (cv : Int) < 1 - 127
        all_goals
          have HT3 := Lib.hid t3
          go_wp2_with fail
          go_region_held3 (fun w' => w'.cell? ⟨w.heap.size, 0, none⟩ = some (.int .i64 8) ∧ w'.cell? ⟨w.heap.size, 1, none⟩ = some (.int .i64 23) ∧ w'.cell? ⟨w.heap.size + 1, 1, none⟩ = some (.bool m1) ∧ w'.cell? ⟨w.heap.size + 1, 3, none⟩ = some (.int .u64 h1) ∧ w'.cell? ⟨w.heap.size + 1, 4, none⟩ = some (.int .u64 l1)) (all_goals (first | (go_keep; done) | (simp (disch := omega) only [cell_set_far]; simp [*])))
            (first
              | (go_at_call 106; refine (least_c false _ _ (.inl ⟨rfl, rfl, rfl⟩) _).mono ?_; rintro e w6 ⟨rfl, hb6⟩; obtain ⟨hc6, hf6⟩ := bcell hb6; have hz6 := hb6.size; (try simp only [sz_alloc, sz_drew, sz_set] at hz6 hc6 hf6); have l6_0 : w.heap.size < w6.heap.size := (by omega); have n6_0 : ¬ w.heap.size = w6.heap.size := (by omega); have m6_0 : ¬ w6.heap.size = w.heap.size := (by omega); have k6_0 := fun o => hc6 (w.heap.size) o (by omega); have f6_0 := fun o => hf6 (w.heap.size) o (by omega); (try simp (disch := (first | rfl | omega | (simp only [sz_alloc, sz_drew, sz_set]; omega))) only [sz_alloc, sz_drew, sz_set, World.cell?_drew, World.frozen?_drew, World.cell?_alloc_at, World.cell?_alloc_past, World.frozen?_alloc_at, World.frozen?_alloc_past, hc5, hc4, hc3, hc2, hf5, hf4, hf3, hf2] at k6_0 f6_0); have l6_1 : w.heap.size + 1 < w6.heap.size := (by omega); have n6_1 : ¬ w.heap.size + 1 = w6.heap.size := (by omega); have m6_1 : ¬ w6.heap.size = w.heap.size + 1 := (by omega); have k6_1 := fun o => hc6 (w.heap.size + 1) o (by omega); have f6_1 := fun o => hf6 (w.heap.size + 1) o (by omega); (try simp (disch := (first | rfl | omega | (simp only [sz_alloc, sz_drew, sz_set]; omega))) only [sz_alloc, sz_drew, sz_set, World.cell?_drew, World.frozen?_drew, World.cell?_alloc_at, World.cell?_alloc_past, World.frozen?_alloc_at, World.frozen?_alloc_past, hc5, hc4, hc3, hc2, hf5, hf4, hf3, hf2] at k6_1 f6_1); clear hc6 hf6; rw [HBB.out])
              | (go_at_call 119; refine (cut_i rm m1 h1 l1 mg _ hW HZ (by omega) (by omega) HS3 _).mono ?_; rintro e w7 ⟨rfl, hb7⟩; obtain ⟨hc7, hf7⟩ := bcell hb7; have hz7 := hb7.size; (try simp only [sz_alloc, sz_drew, sz_set] at hz7 hc7 hf7); have l7_0 : w.heap.size < w7.heap.size := (by omega); have n7_0 : ¬ w.heap.size = w7.heap.size := (by omega); have m7_0 : ¬ w7.heap.size = w.heap.size := (by omega); have k7_0 := fun o => hc7 (w.heap.size) o (by omega); have f7_0 := fun o => hf7 (w.heap.size) o (by omega); (try simp (disch := (first | rfl | omega | (simp only [sz_alloc, sz_drew, sz_set]; omega))) only [sz_alloc, sz_drew, sz_set, World.cell?_drew, World.frozen?_drew, World.cell?_alloc_at, World.cell?_alloc_past, World.frozen?_alloc_at, World.frozen?_alloc_past, hc6, hc5, hc4, hc3, hc2, hf6, hf5, hf4, hf3, hf2] at k7_0 f7_0); have l7_1 : w.heap.size + 1 < w7.heap.size := (by omega); have n7_1 : ¬ w.heap.size + 1 = w7.heap.size := (by omega); have m7_1 : ¬ w7.heap.size = w.heap.size + 1 := (by omega); have k7_1 := fun o => hc7 (w.heap.size + 1) o (by omega); have f7_1 := fun o => hf7 (w.heap.size + 1) o (by omega); (try simp (disch := (first | rfl | omega | (simp only [sz_alloc, sz_drew, sz_set]; omega))) only [sz_alloc, sz_drew, sz_set, World.cell?_drew, World.frozen?_drew, World.cell?_alloc_at, World.cell?_alloc_past, World.frozen?_alloc_at, World.frozen?_alloc_past, hc6, hc5, hc4, hc3, hc2, hf6, hf5, hf4, hf3, hf2] at k7_1 f7_1); clear hc7 hf7))
          have HR2 : Hid (roundY false rm m1 x1 mg k df = (noughtV false m1 + cutK rm m1 mg (-22 - (x1 + 127)).toNat, if diffV mg (-22 - (x1 + 127)).toNat then (if x1 + 127 + (cv : Int) < 1 - 127 then 3 else 1) else 0)) := by
            show _ = _
            rw [HR.out]; congr 1
            by_cases hz : restV mg (-22 - (x1 + 127)).toNat = 0
            · rw [if_pos hz, show diffV mg _ = false from decide_eq_false (by simpa using hz)]; rfl
            · rw [if_neg hz, show diffV mg _ = true from decide_eq_true hz]; rfl
          (first | rw [if_pos HT3.out] at HR2 | rw [if_neg (show ¬ (x1 + 127 + (cv : Int) < 1 - 127) by have := HT3.out; omega)] at HR2)
          clear ew1 ew2
          revert HK2 HR2
          clear HR HS3
          generalize cutK rm m1 mg (-22 - (x1 + 127)).toNat = k2
          generalize diffV mg (-22 - (x1 + 127)).toNat = df2
          intro HK2 HR2
          go_wp2_with fail
          refine (least_c false _ _ (.inl ⟨rfl, rfl, rfl⟩) _).mono ?_
          rintro e w8 ⟨rfl, hb8⟩
          obtain ⟨hc8, hf8⟩ := bcell hb8; have hz8 := hb8.size; (try simp only [sz_alloc, sz_drew, sz_set] at hz8 hc8 hf8); have l8_0 : w.heap.size < w8.heap.size := (by omega); have n8_0 : ¬ w.heap.size = w8.heap.size := (by omega); have m8_0 : ¬ w8.heap.size = w.heap.size := (by omega); have k8_0 := fun o => hc8 (w.heap.size) o (by omega); have f8_0 := fun o => hf8 (w.heap.size) o (by omega); (try simp (disch := (first | rfl | omega | (simp only [sz_alloc, sz_drew, sz_set]; omega))) only [sz_alloc, sz_drew, sz_set, World.cell?_drew, World.frozen?_drew, World.cell?_alloc_at, World.cell?_alloc_past, World.frozen?_alloc_at, World.frozen?_alloc_past, hc7, hc6, hc5, hc4, hc3, hc2, hf7, hf6, hf5, hf4, hf3, hf2] at k8_0 f8_0); have l8_1 : w.heap.size + 1 < w8.heap.size := (by omega); have n8_1 : ¬ w.heap.size + 1 = w8.heap.size := (by omega); have m8_1 : ¬ w8.heap.size = w.heap.size + 1 := (by omega); have k8_1 := fun o => hc8 (w.heap.size + 1) o (by omega); have f8_1 := fun o => hf8 (w.heap.size + 1) o (by omega); (try simp (disch := (first | rfl | omega | (simp only [sz_alloc, sz_drew, sz_set]; omega))) only [sz_alloc, sz_drew, sz_set, World.cell?_drew, World.frozen?_drew, World.cell?_alloc_at, World.cell?_alloc_past, World.frozen?_alloc_at, World.frozen?_alloc_past, hc7, hc6, hc5, hc4, hc3, hc2, hf7, hf6, hf5, hf4, hf3, hf2] at k8_1 f8_1)
          clear hc8 hf8
          rw [HBB.out]
          have hk2l := HK2.out
          have hkl2 : k2 ≤ 2 * 8388608 := hk2l
          clear hk2l
          cases df2
          all_goals
            go_wp2_with fail
            refine (join_f m1 (-126) k2 (by decide) (by decide) hkl2 (hid0_f k2 hkl2) _).mono ?_
            rintro e w9 ⟨rfl, hb9⟩
            rw [val0_f k2]
            revert HR2
            generalize noughtV false m1 + k2 = v9
            intro HR2
            go_wp2_with fail
            go_ret2
            exact retP_mk (by rw [HRF.out, HX.out, HR2.out] <;> rfl) (by rw [HRF.out, HX.out, HR2.out] <;> (first | rfl | decide)) (by repeat (first | (with_reducible first | exact Below.refl _ _ | assumption | exact Nat.le_refl _ | refine Below.drew ?_ | refine Below.alloc ?_ ?_ _ | refine Below.setCell ?_ ?_ _ | refine le_alloc ?_ | refine le_set ?_ | refine le_drew ?_ | refine below_step (by assumption) ?_ ?_ | refine le_below (by assumption) ?_) | (dsimp only; omega)))
      · have HR0 := HXX.out
        rw [if_neg (by omega), if_neg (by omega)] at HR0
        have HJ : Hid ((x1 + 127 + (127 - 1)).toNat * 8388608 + k < 2147483648) := by have := HV.out; show _ < _; omega
        have hkl2 : k ≤ 2 * 8388608 := hkl
        have HR := Lib.hid HR0; clear HR0 hkl
        cases df
        all_goals
          go_wp2_with fail
          refine (join_f m1 (x1 + 127) k (by omega) (by omega) hkl2 HJ _).mono ?_
          rintro e w5 ⟨rfl, hb5⟩
          revert HR
          generalize noughtV false m1 + ((x1 + 127 + (127 - 1)).toNat * 8388608 + k) = v5
          intro HR
          go_wp2_with fail
          go_ret2
          exact retP_mk (by rw [HRF.out, HX.out, HR.out] <;> rfl) (by rw [HRF.out, HX.out, HR.out] <;> rfl) (by repeat (first | (with_reducible first | exact Below.refl _ _ | assumption | exact Nat.le_refl _ | refine Below.drew ?_ | refine Below.alloc ?_ ?_ _ | refine Below.setCell ?_ ?_ _ | refine le_alloc ?_ | refine le_set ?_ | refine le_drew ?_ | refine below_step (by assumption) ?_ ?_ | refine le_below (by assumption) ?_) | (dsimp only; omega)))
theorem val0_t (k : Nat) : (-1022 + (1023 - 1) : Int).toNat * 4503599627370496 + k = k := by rw [show (-1022 + (1023 - 1) : Int).toNat = 0 from rfl]; omega
theorem hid0_t (k : Nat) (h : k ≤ 2 * 4503599627370496) : Hid ((-1022 + (1023 - 1) : Int).toNat * 4503599627370496 + k < 9223372036854775808) := by show _ < _; rw [val0_t]; omega
set_option maxRecDepth 100000 in
set_option maxHeartbeats 4000000 in
theorem round_t (rm : Int) (c : Int) (m : Bool) (x : Int) (h l : Nat) (N : Num) (hN : Hid (IsN c m x h l N)) (a1 : -10000 ≤ x) (a2 : x ≤ 10000) (z1 : Hid (N.mag ≠ 0)) (y1 : Hid (blen N.mag ≤ 128)) (w : World) :
    Calls Try.prog 108 #[.agg #[.int .i64 11, .int .i64 52], .int .i64 rm, .agg #[.int .i64 c, .bool m, .int .i64 x, .int .u64 h, .int .u64 l]] w (RetP (roundF true rm N) w) := by
  go_enter Try.func108, Try.ntmps108
  go_upto_region 1 with fail
  go_cut [] (fun wx => ∃ (c1 : Int) (m1 : Bool) (x1 : Int) (h1 l1 : Nat), Hid (IsN c1 m1 x1 h1 l1 (raisedN N 127)) ∧ At2 wx w.heap.size 11 52 ∧ At5 wx (w.heap.size + 1) c1 m1 x1 h1 l1 ∧ Below w.heap.size w wx ∧ w.heap.size + 1 + 1 ≤ wx.heap.size)
  case first =>
    go_wp2_with fail
    refine (raised_c c m x h l N 127 hN (by decide) (by decide) (by have := y1.out; omega) (by omega) (by omega) _).mono ?_
    rintro e w1 ⟨c1, m1, x1, h1, l1, rfl, hI1, hb1⟩
    obtain ⟨hc1, hf1⟩ := bcell hb1; have hz1 := hb1.size; (try simp only [sz_alloc, sz_drew, sz_set] at hz1 hc1 hf1); have l1_0 : w.heap.size < w1.heap.size := (by omega); have n1_0 : ¬ w.heap.size = w1.heap.size := (by omega); have m1_0 : ¬ w1.heap.size = w.heap.size := (by omega); have k1_0 := fun o => hc1 (w.heap.size) o (by omega); have f1_0 := fun o => hf1 (w.heap.size) o (by omega); (try simp (disch := (first | rfl | omega | (simp only [sz_alloc, sz_drew, sz_set]; omega))) only [sz_alloc, sz_drew, sz_set, World.cell?_drew, World.frozen?_drew, World.cell?_alloc_at, World.cell?_alloc_past, World.frozen?_alloc_at, World.frozen?_alloc_past] at k1_0 f1_0); have l1_1 : w.heap.size + 1 < w1.heap.size := (by omega); have n1_1 : ¬ w.heap.size + 1 = w1.heap.size := (by omega); have m1_1 : ¬ w1.heap.size = w.heap.size + 1 := (by omega); have k1_1 := fun o => hc1 (w.heap.size + 1) o (by omega); have f1_1 := fun o => hf1 (w.heap.size + 1) o (by omega); (try simp (disch := (first | rfl | omega | (simp only [sz_alloc, sz_drew, sz_set]; omega))) only [sz_alloc, sz_drew, sz_set, World.cell?_drew, World.frozen?_drew, World.cell?_alloc_at, World.cell?_alloc_past, World.frozen?_alloc_at, World.frozen?_alloc_past] at k1_1 f1_1)
    clear hc1 hf1
    go_wp2_with fail
    go_meet
    refine ⟨c1, m1, x1, h1, l1, hI1, ⟨?_, ?_⟩, ⟨?_, ?_, ?_, ?_, ?_, ?_⟩, (by repeat (first | (with_reducible first | exact Below.refl _ _ | assumption | exact Nat.le_refl _ | refine Below.drew ?_ | refine Below.alloc ?_ ?_ _ | refine Below.setCell ?_ ?_ _ | refine le_alloc ?_ | refine le_set ?_ | refine le_drew ?_ | refine below_step (by assumption) ?_ ?_ | refine le_below (by assumption) ?_) | (dsimp only; omega))), ?_⟩
    all_goals (first | (simp only [sz_set, sz_drew]; omega) | (go_simp; done) | (simp (disch := omega) [*, cell_set_far]; done))
  case rest =>
    obtain ⟨c1, m1, x1, h1, l1, hI1, ⟨p0, p1⟩, ⟨q0, q1, q2, q3, q4, q5⟩, hbc, hzc⟩ := hcut
    have B1 : Hid (x1 = (raisedN N 127).exp ∧ (raisedN N 127).exp = x - (128 - (blen N.mag : Int))) := ⟨hI1.out.2.2.1, by rw [hN.out.2.2.1]; rfl⟩
    have o1 : -11000 ≤ x1 := by have := B1.out; omega
    have o2 : x1 ≤ 11000 := by have := B1.out; have := y1.out; omega
    have hW : Hid (IsW h1 l1 (raisedN N 127).mag) := hI1.out.2.2.2
    have RM : Hid (2 ^ 127 ≤ (raisedN N 127).mag ∧ (raisedN N 127).mag < 2 ^ 128) := (raised_mag z1.out (by decide : 127 ≤ 127) y1.out).2
    have MM : Hid (m1 = (raisedN N 127).minus) := hI1.out.2.1
    have XX : Hid (x1 = (raisedN N 127).exp) := hI1.out.2.2.1
    have HRF : Hid (roundF true rm N = roundX true rm m1 x1 (raisedN N 127).mag) := by
      show _ = _; unfold roundF roundX; rw [MM.out, XX.out]
    revert hW RM HRF
    generalize (raisedN N 127).mag = mg
    intro hW RM HRF
    go_wp2_with fail
    go_region
    go_wp2_with fail
    refine (cut_i rm m1 h1 l1 mg _ hW (by have := RM.out; show _ ≠ _; omega) (by decide) (by decide) (shr_small _ _ RM.out.2 (by decide)) _).mono ?_
    rintro e w2 ⟨rfl, hb2⟩
    obtain ⟨hc2, hf2⟩ := bcell hb2; have hz2 := hb2.size; (try simp only [sz_alloc, sz_drew, sz_set] at hz2 hc2 hf2); have l2_0 : w.heap.size < w2.heap.size := (by omega); have n2_0 : ¬ w.heap.size = w2.heap.size := (by omega); have m2_0 : ¬ w2.heap.size = w.heap.size := (by omega); have k2_0 := fun o => hc2 (w.heap.size) o (by omega); have f2_0 := fun o => hf2 (w.heap.size) o (by omega); (try simp (disch := (first | rfl | omega | (simp only [sz_alloc, sz_drew, sz_set]; omega))) only [sz_alloc, sz_drew, sz_set, World.cell?_drew, World.frozen?_drew, World.cell?_alloc_at, World.cell?_alloc_past, World.frozen?_alloc_at, World.frozen?_alloc_past] at k2_0 f2_0); have l2_1 : w.heap.size + 1 < w2.heap.size := (by omega); have n2_1 : ¬ w.heap.size + 1 = w2.heap.size := (by omega); have m2_1 : ¬ w2.heap.size = w.heap.size + 1 := (by omega); have k2_1 := fun o => hc2 (w.heap.size + 1) o (by omega); have f2_1 := fun o => hf2 (w.heap.size + 1) o (by omega); (try simp (disch := (first | rfl | omega | (simp only [sz_alloc, sz_drew, sz_set]; omega))) only [sz_alloc, sz_drew, sz_set, World.cell?_drew, World.frozen?_drew, World.cell?_alloc_at, World.cell?_alloc_past, World.frozen?_alloc_at, World.frozen?_alloc_past] at k2_1 f2_1)
    clear hc2 hf2
    have HKL : Hid (cutK rm m1 mg 75 ≤ 9007199254740992) := cutK_le rm m1 mg 75 128 RM.out.2 (by decide)
    have HX : Hid (roundX true rm m1 x1 mg = roundY true rm m1 x1 mg (cutK rm m1 mg 75) (diffV mg 75)) := rfl
    revert HKL HX
    rw [show (75 : Int).toNat = 75 from rfl]
    generalize cutK rm m1 mg 75 = k
    generalize diffV mg 75 = df
    intro HKL HX
    have HCV : Hid (k / 9007199254740992 ≤ 1) := by have := HKL.out; show _ ≤ _; omega
    have HDV : Hid ((k : Int) / 9007199254740992 = ((k / 9007199254740992 : Nat) : Int)) := by show _ = _; omega
    have HBB : Hid (bias true = 1023) := rfl
    have HXX : Hid (roundY true rm m1 x1 mg k df =
      if (1023 : Int) < x1 + 127 + ((k / 9007199254740992 : Nat) : Int) then (beyondV true rm m1, 5)
      else if x1 + 127 < 1 - 1023 then
        (noughtV true m1 + cutK rm m1 mg (75 + (1 - 1023 - (x1 + 127)).toNat), if restV mg (75 + (1 - 1023 - (x1 + 127)).toNat) = 0 then 0 else (if x1 + 127 + ((k / 9007199254740992 : Nat) : Int) < 1 - 1023 then 3 else 1))
      else (noughtV true m1 + ((x1 + 127 + (1023 - 1)).toNat * 4503599627370496 + k), if df then 1 else 0)) := rfl
    go_wp2_with fail
    rw [HDV.out]
    revert HCV HXX
    generalize hcv : k / 9007199254740992 = cv
    intro HCV HXX
    have HV := Lib.hid hcv; clear hcv HDV
    have hcv1 : cv ≤ 1 := HCV.out
    rw [wrap64_nat cv (by omega), show x1 + 128 - 1 = x1 + 127 by omega, IntWalk.wrap64_in (x1 + 127 + (cv : Int)) ⟨by omega, by omega⟩]
    refine (most_c true _ _ (.inr ⟨rfl, rfl, rfl⟩) _).mono ?_
    rintro e w3 ⟨rfl, hb3⟩
    obtain ⟨hc3, hf3⟩ := bcell hb3; have hz3 := hb3.size; (try simp only [sz_alloc, sz_drew, sz_set] at hz3 hc3 hf3); have l3_0 : w.heap.size < w3.heap.size := (by omega); have n3_0 : ¬ w.heap.size = w3.heap.size := (by omega); have m3_0 : ¬ w3.heap.size = w.heap.size := (by omega); have k3_0 := fun o => hc3 (w.heap.size) o (by omega); have f3_0 := fun o => hf3 (w.heap.size) o (by omega); (try simp (disch := (first | rfl | omega | (simp only [sz_alloc, sz_drew, sz_set]; omega))) only [sz_alloc, sz_drew, sz_set, World.cell?_drew, World.frozen?_drew, World.cell?_alloc_at, World.cell?_alloc_past, World.frozen?_alloc_at, World.frozen?_alloc_past, hc2, hf2] at k3_0 f3_0); have l3_1 : w.heap.size + 1 < w3.heap.size := (by omega); have n3_1 : ¬ w.heap.size + 1 = w3.heap.size := (by omega); have m3_1 : ¬ w3.heap.size = w.heap.size + 1 := (by omega); have k3_1 := fun o => hc3 (w.heap.size + 1) o (by omega); have f3_1 := fun o => hf3 (w.heap.size + 1) o (by omega); (try simp (disch := (first | rfl | omega | (simp only [sz_alloc, sz_drew, sz_set]; omega))) only [sz_alloc, sz_drew, sz_set, World.cell?_drew, World.frozen?_drew, World.cell?_alloc_at, World.cell?_alloc_past, World.frozen?_alloc_at, World.frozen?_alloc_past, hc2, hf2] at k3_1 f3_1)
    clear hc3 hf3
    rw [HBB.out]
    by_cases t1 : (1023 : Int) < x1 + 127 + cv
    · have HR : Hid (roundY true rm m1 x1 mg k df = (beyondV true rm m1, 5)) := by show _ = _; rw [HXX.out, if_pos t1]
      go_wp2_with fail
      refine (beyond_c true _ _ (.inr ⟨rfl, rfl, rfl⟩) rm m1 _).mono ?_
      rintro e w4 ⟨rfl, hb4⟩
      go_wp2_with fail
      go_ret2
      exact retP_mk (by rw [HRF.out, HX.out, HR.out]) (by rw [HRF.out, HX.out, HR.out]) (by repeat (first | (with_reducible first | exact Below.refl _ _ | assumption | exact Nat.le_refl _ | refine Below.drew ?_ | refine Below.alloc ?_ ?_ _ | refine Below.setCell ?_ ?_ _ | refine le_alloc ?_ | refine le_set ?_ | refine le_drew ?_ | refine below_step (by assumption) ?_ ?_ | refine le_below (by assumption) ?_) | (dsimp only; omega)))
    · go_wp2_with fail
      refine (least_c true _ _ (.inr ⟨rfl, rfl, rfl⟩) _).mono ?_
      rintro e w4 ⟨rfl, hb4⟩
      obtain ⟨hc4, hf4⟩ := bcell hb4; have hz4 := hb4.size; (try simp only [sz_alloc, sz_drew, sz_set] at hz4 hc4 hf4); have l4_0 : w.heap.size < w4.heap.size := (by omega); have n4_0 : ¬ w.heap.size = w4.heap.size := (by omega); have m4_0 : ¬ w4.heap.size = w.heap.size := (by omega); have k4_0 := fun o => hc4 (w.heap.size) o (by omega); have f4_0 := fun o => hf4 (w.heap.size) o (by omega); (try simp (disch := (first | rfl | omega | (simp only [sz_alloc, sz_drew, sz_set]; omega))) only [sz_alloc, sz_drew, sz_set, World.cell?_drew, World.frozen?_drew, World.cell?_alloc_at, World.cell?_alloc_past, World.frozen?_alloc_at, World.frozen?_alloc_past, hc3, hc2, hf3, hf2] at k4_0 f4_0); have l4_1 : w.heap.size + 1 < w4.heap.size := (by omega); have n4_1 : ¬ w.heap.size + 1 = w4.heap.size := (by omega); have m4_1 : ¬ w4.heap.size = w.heap.size + 1 := (by omega); have k4_1 := fun o => hc4 (w.heap.size + 1) o (by omega); have f4_1 := fun o => hf4 (w.heap.size + 1) o (by omega); (try simp (disch := (first | rfl | omega | (simp only [sz_alloc, sz_drew, sz_set]; omega))) only [sz_alloc, sz_drew, sz_set, World.cell?_drew, World.frozen?_drew, World.cell?_alloc_at, World.cell?_alloc_past, World.frozen?_alloc_at, World.frozen?_alloc_past, hc3, hc2, hf3, hf2] at k4_1 f4_1)
      clear hc4 hf4
      rw [HBB.out]
      have hkl := HKL.out
      by_cases t2 : x1 + 127 < 1 - 1023
      · have HNN : Hid ((-947 - (x1 + 127)).toNat = 75 + (1 - 1023 - (x1 + 127)).toNat) := by show _ = _; omega
        have HS3 : Hid (mg / 2 ^ (-947 - (x1 + 127)).toNat < 4611686018427387904) := shr_small _ _ RM.out.2 (by omega)
        have HK2 : Hid (cutK rm m1 mg (-947 - (x1 + 127)).toNat ≤ 9007199254740992) := by
          have h1 := cutK_le rm m1 mg (-947 - (x1 + 127)).toNat (128 + (1 - 1023 - (x1 + 127)).toNat) (Nat.lt_of_lt_of_le RM.out.2 (Nat.pow_le_pow_right (by decide) (by omega))) (by omega)
          rw [show 128 + (1 - 1023 - (x1 + 127)).toNat - (-947 - (x1 + 127)).toNat = 53 by omega] at h1
          exact h1
        have HZ : Hid (mg ≠ 0) := by have := RM.out; show _ ≠ _; omega
        have HR0 := HXX.out
        rw [if_neg (by omega), if_pos (by omega), ← HNN.out] at HR0
        have ew1 : IntKind.i64.wrap (-947) = -947 := IntWalk.i64_in _ (by omega)
        have ew2 : IntKind.i64.wrap (-947 - (x1 + 127)) = -947 - (x1 + 127) := IntWalk.i64_in _ (by omega)
        have HR := Lib.hid HR0; clear HR0 hkl
        go_wp2_with fail
        refine (least_c true _ _ (.inr ⟨rfl, rfl, rfl⟩) _).mono ?_
        rintro e w5 ⟨rfl, hb5⟩
        obtain ⟨hc5, hf5⟩ := bcell hb5; have hz5 := hb5.size; (try simp only [sz_alloc, sz_drew, sz_set] at hz5 hc5 hf5); have l5_0 : w.heap.size < w5.heap.size := (by omega); have n5_0 : ¬ w.heap.size = w5.heap.size := (by omega); have m5_0 : ¬ w5.heap.size = w.heap.size := (by omega); have k5_0 := fun o => hc5 (w.heap.size) o (by omega); have f5_0 := fun o => hf5 (w.heap.size) o (by omega); (try simp (disch := (first | rfl | omega | (simp only [sz_alloc, sz_drew, sz_set]; omega))) only [sz_alloc, sz_drew, sz_set, World.cell?_drew, World.frozen?_drew, World.cell?_alloc_at, World.cell?_alloc_past, World.frozen?_alloc_at, World.frozen?_alloc_past, hc4, hc3, hc2, hf4, hf3, hf2] at k5_0 f5_0); have l5_1 : w.heap.size + 1 < w5.heap.size := (by omega); have n5_1 : ¬ w.heap.size + 1 = w5.heap.size := (by omega); have m5_1 : ¬ w5.heap.size = w.heap.size + 1 := (by omega); have k5_1 := fun o => hc5 (w.heap.size + 1) o (by omega); have f5_1 := fun o => hf5 (w.heap.size + 1) o (by omega); (try simp (disch := (first | rfl | omega | (simp only [sz_alloc, sz_drew, sz_set]; omega))) only [sz_alloc, sz_drew, sz_set, World.cell?_drew, World.frozen?_drew, World.cell?_alloc_at, World.cell?_alloc_past, World.frozen?_alloc_at, World.frozen?_alloc_past, hc4, hc3, hc2, hf4, hf3, hf2] at k5_1 f5_1)
        clear hc5 hf5
        rw [HBB.out]
        by_cases t3 : x1 + 127 + (cv : Int) < 1 - 1023
        all_goals
          have HT3 := Lib.hid t3
          go_wp2_with fail
          go_region_held3 (fun w' => w'.cell? ⟨w.heap.size, 0, none⟩ = some (.int .i64 11) ∧ w'.cell? ⟨w.heap.size, 1, none⟩ = some (.int .i64 52) ∧ w'.cell? ⟨w.heap.size + 1, 1, none⟩ = some (.bool m1) ∧ w'.cell? ⟨w.heap.size + 1, 3, none⟩ = some (.int .u64 h1) ∧ w'.cell? ⟨w.heap.size + 1, 4, none⟩ = some (.int .u64 l1)) (all_goals (first | (go_keep; done) | (simp (disch := omega) only [cell_set_far]; simp [*])))
            (first
              | (go_at_call 106; refine (least_c true _ _ (.inr ⟨rfl, rfl, rfl⟩) _).mono ?_; rintro e w6 ⟨rfl, hb6⟩; obtain ⟨hc6, hf6⟩ := bcell hb6; have hz6 := hb6.size; (try simp only [sz_alloc, sz_drew, sz_set] at hz6 hc6 hf6); have l6_0 : w.heap.size < w6.heap.size := (by omega); have n6_0 : ¬ w.heap.size = w6.heap.size := (by omega); have m6_0 : ¬ w6.heap.size = w.heap.size := (by omega); have k6_0 := fun o => hc6 (w.heap.size) o (by omega); have f6_0 := fun o => hf6 (w.heap.size) o (by omega); (try simp (disch := (first | rfl | omega | (simp only [sz_alloc, sz_drew, sz_set]; omega))) only [sz_alloc, sz_drew, sz_set, World.cell?_drew, World.frozen?_drew, World.cell?_alloc_at, World.cell?_alloc_past, World.frozen?_alloc_at, World.frozen?_alloc_past, hc5, hc4, hc3, hc2, hf5, hf4, hf3, hf2] at k6_0 f6_0); have l6_1 : w.heap.size + 1 < w6.heap.size := (by omega); have n6_1 : ¬ w.heap.size + 1 = w6.heap.size := (by omega); have m6_1 : ¬ w6.heap.size = w.heap.size + 1 := (by omega); have k6_1 := fun o => hc6 (w.heap.size + 1) o (by omega); have f6_1 := fun o => hf6 (w.heap.size + 1) o (by omega); (try simp (disch := (first | rfl | omega | (simp only [sz_alloc, sz_drew, sz_set]; omega))) only [sz_alloc, sz_drew, sz_set, World.cell?_drew, World.frozen?_drew, World.cell?_alloc_at, World.cell?_alloc_past, World.frozen?_alloc_at, World.frozen?_alloc_past, hc5, hc4, hc3, hc2, hf5, hf4, hf3, hf2] at k6_1 f6_1); clear hc6 hf6; rw [HBB.out])
              | (go_at_call 119; refine (cut_i rm m1 h1 l1 mg _ hW HZ (by omega) (by omega) HS3 _).mono ?_; rintro e w7 ⟨rfl, hb7⟩; obtain ⟨hc7, hf7⟩ := bcell hb7; have hz7 := hb7.size; (try simp only [sz_alloc, sz_drew, sz_set] at hz7 hc7 hf7); have l7_0 : w.heap.size < w7.heap.size := (by omega); have n7_0 : ¬ w.heap.size = w7.heap.size := (by omega); have m7_0 : ¬ w7.heap.size = w.heap.size := (by omega); have k7_0 := fun o => hc7 (w.heap.size) o (by omega); have f7_0 := fun o => hf7 (w.heap.size) o (by omega); (try simp (disch := (first | rfl | omega | (simp only [sz_alloc, sz_drew, sz_set]; omega))) only [sz_alloc, sz_drew, sz_set, World.cell?_drew, World.frozen?_drew, World.cell?_alloc_at, World.cell?_alloc_past, World.frozen?_alloc_at, World.frozen?_alloc_past, hc6, hc5, hc4, hc3, hc2, hf6, hf5, hf4, hf3, hf2] at k7_0 f7_0); have l7_1 : w.heap.size + 1 < w7.heap.size := (by omega); have n7_1 : ¬ w.heap.size + 1 = w7.heap.size := (by omega); have m7_1 : ¬ w7.heap.size = w.heap.size + 1 := (by omega); have k7_1 := fun o => hc7 (w.heap.size + 1) o (by omega); have f7_1 := fun o => hf7 (w.heap.size + 1) o (by omega); (try simp (disch := (first | rfl | omega | (simp only [sz_alloc, sz_drew, sz_set]; omega))) only [sz_alloc, sz_drew, sz_set, World.cell?_drew, World.frozen?_drew, World.cell?_alloc_at, World.cell?_alloc_past, World.frozen?_alloc_at, World.frozen?_alloc_past, hc6, hc5, hc4, hc3, hc2, hf6, hf5, hf4, hf3, hf2] at k7_1 f7_1); clear hc7 hf7))
          have HR2 : Hid (roundY true rm m1 x1 mg k df = (noughtV true m1 + cutK rm m1 mg (-947 - (x1 + 127)).toNat, if diffV mg (-947 - (x1 + 127)).toNat then (if x1 + 127 + (cv : Int) < 1 - 1023 then 3 else 1) else 0)) := by
            show _ = _
            rw [HR.out]; congr 1
            by_cases hz : restV mg (-947 - (x1 + 127)).toNat = 0
            · rw [if_pos hz, show diffV mg _ = false from decide_eq_false (by simpa using hz)]; rfl
            · rw [if_neg hz, show diffV mg _ = true from decide_eq_true hz]; rfl
          (first | rw [if_pos HT3.out] at HR2 | rw [if_neg (show ¬ (x1 + 127 + (cv : Int) < 1 - 1023) by have := HT3.out; omega)] at HR2)
          clear ew1 ew2
          revert HK2 HR2
          clear HR HS3
          generalize cutK rm m1 mg (-947 - (x1 + 127)).toNat = k2
          generalize diffV mg (-947 - (x1 + 127)).toNat = df2
          intro HK2 HR2
          go_wp2_with fail
          refine (least_c true _ _ (.inr ⟨rfl, rfl, rfl⟩) _).mono ?_
          rintro e w8 ⟨rfl, hb8⟩
          obtain ⟨hc8, hf8⟩ := bcell hb8; have hz8 := hb8.size; (try simp only [sz_alloc, sz_drew, sz_set] at hz8 hc8 hf8); have l8_0 : w.heap.size < w8.heap.size := (by omega); have n8_0 : ¬ w.heap.size = w8.heap.size := (by omega); have m8_0 : ¬ w8.heap.size = w.heap.size := (by omega); have k8_0 := fun o => hc8 (w.heap.size) o (by omega); have f8_0 := fun o => hf8 (w.heap.size) o (by omega); (try simp (disch := (first | rfl | omega | (simp only [sz_alloc, sz_drew, sz_set]; omega))) only [sz_alloc, sz_drew, sz_set, World.cell?_drew, World.frozen?_drew, World.cell?_alloc_at, World.cell?_alloc_past, World.frozen?_alloc_at, World.frozen?_alloc_past, hc7, hc6, hc5, hc4, hc3, hc2, hf7, hf6, hf5, hf4, hf3, hf2] at k8_0 f8_0); have l8_1 : w.heap.size + 1 < w8.heap.size := (by omega); have n8_1 : ¬ w.heap.size + 1 = w8.heap.size := (by omega); have m8_1 : ¬ w8.heap.size = w.heap.size + 1 := (by omega); have k8_1 := fun o => hc8 (w.heap.size + 1) o (by omega); have f8_1 := fun o => hf8 (w.heap.size + 1) o (by omega); (try simp (disch := (first | rfl | omega | (simp only [sz_alloc, sz_drew, sz_set]; omega))) only [sz_alloc, sz_drew, sz_set, World.cell?_drew, World.frozen?_drew, World.cell?_alloc_at, World.cell?_alloc_past, World.frozen?_alloc_at, World.frozen?_alloc_past, hc7, hc6, hc5, hc4, hc3, hc2, hf7, hf6, hf5, hf4, hf3, hf2] at k8_1 f8_1)
          clear hc8 hf8
          rw [HBB.out]
          have hk2l := HK2.out
          have hkl2 : k2 ≤ 2 * 4503599627370496 := hk2l
          clear hk2l
          cases df2
          all_goals
            go_wp2_with fail
            refine (join_t m1 (-1022) k2 (by decide) (by decide) hkl2 (hid0_t k2 hkl2) _).mono ?_
            rintro e w9 ⟨rfl, hb9⟩
            rw [val0_t k2]
            revert HR2
            generalize noughtV true m1 + k2 = v9
            intro HR2
            go_wp2_with fail
            go_ret2
            exact retP_mk (by rw [HRF.out, HX.out, HR2.out] <;> rfl) (by rw [HRF.out, HX.out, HR2.out] <;> (first | rfl | decide)) (by repeat (first | (with_reducible first | exact Below.refl _ _ | assumption | exact Nat.le_refl _ | refine Below.drew ?_ | refine Below.alloc ?_ ?_ _ | refine Below.setCell ?_ ?_ _ | refine le_alloc ?_ | refine le_set ?_ | refine le_drew ?_ | refine below_step (by assumption) ?_ ?_ | refine le_below (by assumption) ?_) | (dsimp only; omega)))
      · have HR0 := HXX.out
        rw [if_neg (by omega), if_neg (by omega)] at HR0
        have HJ : Hid ((x1 + 127 + (1023 - 1)).toNat * 4503599627370496 + k < 9223372036854775808) := by have := HV.out; show _ < _; omega
        have hkl2 : k ≤ 2 * 4503599627370496 := hkl
        have HR := Lib.hid HR0; clear HR0 hkl
        cases df
        all_goals
          go_wp2_with fail
          refine (join_t m1 (x1 + 127) k (by omega) (by omega) hkl2 HJ _).mono ?_
          rintro e w5 ⟨rfl, hb5⟩
          revert HR
          generalize noughtV true m1 + ((x1 + 127 + (1023 - 1)).toNat * 4503599627370496 + k) = v5
          intro HR
          go_wp2_with fail
          go_ret2
          exact retP_mk (by rw [HRF.out, HX.out, HR.out] <;> rfl) (by rw [HRF.out, HX.out, HR.out] <;> rfl) (by repeat (first | (with_reducible first | exact Below.refl _ _ | assumption | exact Nat.le_refl _ | refine Below.drew ?_ | refine Below.alloc ?_ ?_ _ | refine Below.setCell ?_ ?_ _ | refine le_alloc ?_ | refine le_set ?_ | refine le_drew ?_ | refine below_step (by assumption) ?_ ?_ | refine le_below (by assumption) ?_) | (dsimp only; omega)))
/-- What is known of a number that is finite and no nought. -/
def FinB (N : Num) : Prop := N.mag ≠ 0 ∧ N.mag < 2 ^ 127 ∧ -5000 ≤ N.exp ∧ N.exp ≤ 5000
def FinC (N : Num) : Prop := N.mag ≠ 0 ∧ N.mag < 2 ^ 128 ∧ -10000 ≤ N.exp ∧ N.exp ≤ 10000
theorem round_c (d : Bool) (E F : Int) (hd : Lay d E F) (rm : Int) (c : Int) (m : Bool) (x : Int) (h l : Nat) (N : Num) (hN : Hid (IsN c m x h l N)) (hB : Hid (FinC N)) (w : World) :
    Calls Try.prog 108 #[.agg #[.int .i64 E, .int .i64 F], .int .i64 rm, .agg #[.int .i64 c, .bool m, .int .i64 x, .int .u64 h, .int .u64 l]] w (RetP (roundF d rm N) w) := by
  obtain ⟨h1, h2, h3, h4⟩ := hB.out
  have hx : x = N.exp := hN.out.2.2.1
  rcases hd with ⟨rfl, rfl, rfl⟩ | ⟨rfl, rfl, rfl⟩
  · exact round_f rm c m x h l N hN (by omega) (by omega) h1 (blen_le _ _ h2) w
  · exact round_t rm c m x h l N hN (by omega) (by omega) h1 (blen_le _ _ h2) w
end Go.Proofs.Yteinjalnkhfecaa.Q
