/- The contracts of roots. -/
import Derived.Test.YthjdeopfbjmmeaaE3
import Derived.Test.YthjdeopfbjmmeaaM3
namespace Go.Proofs.Ythjdeopfbjmmeaa
open Go.ChangeShapes Go.WideShapes Go.ChangeAt Go.RowKit
set_option linter.unusedVariables false
set_option linter.unusedSimpArgs false
def RRel (x : Nat) (a b : Value) : Prop := ∃ r j : Nat, a = .int .u64 r ∧ b = .int .u64 (bitV j : Nat) ∧ Hid (RInv x j r)
set_option maxRecDepth 100000 in
set_option maxHeartbeats 4000000 in
theorem wholeRoot_c (h l x : Nat) (hx : Hid (IsW h l x)) (w : World) :
    Calls Try.prog 87 #[.agg #[.int .u64 h, .int .u64 l]] w (RetU (isq x) w) := by
  go_enter Try.func87, Try.ntmps87
  go_wp2_with fail
  go_loopw [3, 4] (fun a b wr => RRel x a b ∧ wr.cell? ⟨w.heap.size, 0, none⟩ = some (.int .u64 h) ∧ wr.cell? ⟨w.heap.size, 1, none⟩ = some (.int .u64 l) ∧ Below w.heap.size w wr ∧ w.heap.size < wr.heap.size) (fun _ b _ => mq b)
  case atStart => exact ⟨⟨0, 64, rfl, rfl, rinv_start x⟩, by go_simp, by go_simp, (by repeat (first | (with_reducible first | exact Below.refl _ _ | assumption | exact Nat.le_refl _ | refine Below.drew ?_ | refine Below.alloc ?_ ?_ _ | refine Below.setCell ?_ ?_ _ | refine le_alloc ?_ | refine le_set ?_ | refine le_drew ?_ | refine below_step (by assumption) ?_ ?_ | refine le_below (by assumption) ?_) | (dsimp only; omega))), by simp only [sz_alloc]; omega⟩
  case round =>
    obtain ⟨⟨r, j, rfl, rfl, hR⟩, c0, c1, hb, hz⟩ := hrel
    rcases j with _ | j
    · have hb0 : (((bitV 0 : Nat) : Int) != 0) = false := rfl
      have HE : Hid (r = isq x) := rinv_end hR.out
      go_wp2_with fail
      go_ret
      exact retU_mk (by rw [HE.out]) (by repeat (first | (with_reducible first | exact Below.refl _ _ | assumption | exact Nat.le_refl _ | refine Below.drew ?_ | refine Below.alloc ?_ ?_ _ | refine Below.setCell ?_ ?_ _ | refine le_alloc ?_ | refine le_set ?_ | refine le_drew ?_ | refine below_step (by assumption) ?_ ?_ | refine le_below (by assumption) ?_) | (dsimp only; omega)))
    · have hb0 : (((bitV (j + 1) : Nat) : Int) != 0) = true := by
        rw [bne_iff_ne, bitV_succ]; have := Nat.two_pow_pos j; omega
      have HO := Lib.hid (rinv_or hR.out)
      have HS := Lib.hid (rinv_step hR.out)
      have HB : Hid (bitV (j + 1) < 18446744073709551616) := by show _ < _; rw [bitV_succ]; have := HO.out; omega
      have HH : Hid (bitV j < bitV (j + 1)) := by show _ < _; rw [← bitV_half, bitV_succ]; have := Nat.two_pow_pos j; omega
      have e1 : bits .or .u64 (r : Int) ((bitV (j + 1) : Nat) : Int) = ((r + 2 ^ j : Nat) : Int) := by
        rw [bits_or_u64_nat _ _ HO.out.2.2 HB.out, bitV_succ, HO.out.1]
      have e2 : ((bitV (j + 1) : Nat) : Int) / 2 = ((bitV j : Nat) : Int) := by have := bitV_half j; omega
      have hp := bitV_succ j
      rw [← hp] at HO HS e1
      have ht : r + bitV (j + 1) < 18446744073709551616 := HO.out.2.1
      clear hp
      generalize r + bitV (j + 1) = t at *
      have HT := Lib.hid ht
      clear ht
      generalize hg1 : bitV (j + 1) = b1 at *
      generalize hg0 : bitV j = b0 at *
      have HG0 := Lib.hid hg0
      clear hg1 hg0
      go_upto_region 6 with fail
      by_cases hlt : x < t * t
      · have hdec : decide (x < t * t) = true := decide_eq_true hlt
        have HD := Lib.hid hlt; clear hlt
        have ND : Hid (RInv x j r) := HS.out.2 HD.out
        go_region_held3 (fun w' => w'.cell? ⟨w.heap.size, 0, none⟩ = some (.int .u64 h) ∧ w'.cell? ⟨w.heap.size, 1, none⟩ = some (.int .u64 l)) (all_goals (first | (go_keep; done) | (simp (disch := omega) only [cell_set_far]; simp [*])))
          (first
            | (go_at_call 71; refine (multiply_c t t HT.out HT.out _).mono ?_; rintro e w1 ⟨h1, l1, rfl, hI1, hb1⟩; obtain ⟨hc1, hf1⟩ := bcell hb1; have hz1 := hb1.size; (try simp only [sz_alloc, sz_drew, sz_set] at hz1 hc1 hf1); have l1_0 : w.heap.size < w1.heap.size := (by omega); have n1_0 : ¬ w.heap.size = w1.heap.size := (by omega); have m1_0 : ¬ w1.heap.size = w.heap.size := (by omega); have k1_0 := fun o => hc1 (w.heap.size) o (by omega); have f1_0 := fun o => hf1 (w.heap.size) o (by omega); (try simp (disch := (first | rfl | omega | (simp only [sz_alloc, sz_drew, sz_set]; omega))) only [sz_alloc, sz_drew, sz_set, World.cell?_drew, World.frozen?_drew, World.cell?_alloc_at, World.cell?_alloc_past, World.frozen?_alloc_at, World.frozen?_alloc_past] at k1_0 f1_0))
            | (go_at_call 88; refine (below_c h l x h1 l1 (t * t) hx hI1 _).mono ?_; rintro e w2 ⟨rfl, hb2⟩; obtain ⟨hc2, hf2⟩ := bcell hb2; have hz2 := hb2.size; (try simp only [sz_alloc, sz_drew, sz_set] at hz2 hc2 hf2); have l2_0 : w.heap.size < w2.heap.size := (by omega); have n2_0 : ¬ w.heap.size = w2.heap.size := (by omega); have m2_0 : ¬ w2.heap.size = w.heap.size := (by omega); have k2_0 := fun o => hc2 (w.heap.size) o (by omega); have f2_0 := fun o => hf2 (w.heap.size) o (by omega); (try simp (disch := (first | rfl | omega | (simp only [sz_alloc, sz_drew, sz_set]; omega))) only [sz_alloc, sz_drew, sz_set, World.cell?_drew, World.frozen?_drew, World.cell?_alloc_at, World.cell?_alloc_past, World.frozen?_alloc_at, World.frozen?_alloc_past, hc1, hf1] at k2_0 f2_0)))
        all_goals go_wp2_with fail
        all_goals go_roundw
        case rel => exact ⟨⟨r, j, rfl, by rw [HG0.out], ND⟩, by go_simp, by go_simp, (by repeat (first | (with_reducible first | exact Below.refl _ _ | assumption | exact Nat.le_refl _ | refine Below.drew ?_ | refine Below.alloc ?_ ?_ _ | refine Below.setCell ?_ ?_ _ | refine le_alloc ?_ | refine le_set ?_ | refine le_drew ?_ | refine below_step (by assumption) ?_ ?_ | refine le_below (by assumption) ?_) | (dsimp only; omega))), by omega⟩
        case measure => show _ < _; simp only [mq, intOf, Int.toNat_natCast]; exact HH.out
      · have hdec : decide (x < t * t) = false := decide_eq_false hlt
        have HD := Lib.hid hlt; clear hlt
        have ND : Hid (RInv x j t) := HS.out.1 (by have := HD.out; omega)
        go_region_held3 (fun w' => w'.cell? ⟨w.heap.size, 0, none⟩ = some (.int .u64 h) ∧ w'.cell? ⟨w.heap.size, 1, none⟩ = some (.int .u64 l)) (all_goals (first | (go_keep; done) | (simp (disch := omega) only [cell_set_far]; simp [*])))
          (first
            | (go_at_call 71; refine (multiply_c t t HT.out HT.out _).mono ?_; rintro e w1 ⟨h1, l1, rfl, hI1, hb1⟩; obtain ⟨hc1, hf1⟩ := bcell hb1; have hz1 := hb1.size; (try simp only [sz_alloc, sz_drew, sz_set] at hz1 hc1 hf1); have l1_0 : w.heap.size < w1.heap.size := (by omega); have n1_0 : ¬ w.heap.size = w1.heap.size := (by omega); have m1_0 : ¬ w1.heap.size = w.heap.size := (by omega); have k1_0 := fun o => hc1 (w.heap.size) o (by omega); have f1_0 := fun o => hf1 (w.heap.size) o (by omega); (try simp (disch := (first | rfl | omega | (simp only [sz_alloc, sz_drew, sz_set]; omega))) only [sz_alloc, sz_drew, sz_set, World.cell?_drew, World.frozen?_drew, World.cell?_alloc_at, World.cell?_alloc_past, World.frozen?_alloc_at, World.frozen?_alloc_past] at k1_0 f1_0))
            | (go_at_call 88; refine (below_c h l x h1 l1 (t * t) hx hI1 _).mono ?_; rintro e w2 ⟨rfl, hb2⟩; obtain ⟨hc2, hf2⟩ := bcell hb2; have hz2 := hb2.size; (try simp only [sz_alloc, sz_drew, sz_set] at hz2 hc2 hf2); have l2_0 : w.heap.size < w2.heap.size := (by omega); have n2_0 : ¬ w.heap.size = w2.heap.size := (by omega); have m2_0 : ¬ w2.heap.size = w.heap.size := (by omega); have k2_0 := fun o => hc2 (w.heap.size) o (by omega); have f2_0 := fun o => hf2 (w.heap.size) o (by omega); (try simp (disch := (first | rfl | omega | (simp only [sz_alloc, sz_drew, sz_set]; omega))) only [sz_alloc, sz_drew, sz_set, World.cell?_drew, World.frozen?_drew, World.cell?_alloc_at, World.cell?_alloc_past, World.frozen?_alloc_at, World.frozen?_alloc_past, hc1, hf1] at k2_0 f2_0)))
        all_goals go_wp2_with fail
        all_goals go_roundw
        case rel => exact ⟨⟨t, j, rfl, by rw [HG0.out], ND⟩, by go_simp, by go_simp, (by repeat (first | (with_reducible first | exact Below.refl _ _ | assumption | exact Nat.le_refl _ | refine Below.drew ?_ | refine Below.alloc ?_ ?_ _ | refine Below.setCell ?_ ?_ _ | refine le_alloc ?_ | refine le_set ?_ | refine le_drew ?_ | refine below_step (by assumption) ?_ ?_ | refine le_below (by assumption) ?_) | (dsimp only; omega))), by omega⟩
        case measure => show _ < _; simp only [mq, intOf, Int.toNat_natCast]; exact HH.out
attribute [local go_sem ↓ high] run_neW run_eqW
/-- The root of a number, as the code has it. -/
def rootX (M : Num) : Nat := if (raisedN M 127).exp % 2 = 0 then (raisedN M 127).mag else (raisedN M 127).mag / 2
def rootE (M : Num) : Int := if (raisedN M 127).exp % 2 = 0 then (raisedN M 127).exp else (raisedN M 127).exp + 1
def rootN (M : Num) : Num := ⟨1, false, rootE M / 2 - 1, stickyN (shl (isq (rootX M)) 1) (!decide (isq (rootX M) * isq (rootX M) = rootX M))⟩
theorem tmod_even {x : Int} (h : x % 2 = 0) : x.tmod 2 = 0 := Int.tmod_eq_zero_of_dvd (Int.dvd_of_emod_eq_zero h)
theorem tmod_odd {x : Int} (h : ¬ x % 2 = 0) : (x.tmod 2 != 0) = true := by
  rw [bne_iff_ne]; intro e; exact h (Int.emod_eq_zero_of_dvd (Int.dvd_of_tmod_eq_zero e))
set_option maxRecDepth 100000 in
set_option maxHeartbeats 4000000 in
theorem root_c (c : Int) (m : Bool) (x : Int) (h l : Nat) (M : Num) (hM : Hid (IsN c m x h l M))
    (a1 : -10000 ≤ x) (a2 : x ≤ 10000) (z1 : Hid (M.mag ≠ 0)) (y1 : Hid ((blen M.mag : Int) ≤ 127 + 1)) (w : World) :
    Calls Try.prog 57 #[.agg #[.int .i64 c, .bool m, .int .i64 x, .int .u64 h, .int .u64 l]] w (RetN (rootN M) w) := by
  go_enter Try.func57, Try.ntmps57
  go_wp2_with fail
  refine (raised_c c m x h l M 127 hM (by decide) (by decide) y1.out (by omega) (by omega) _).mono ?_
  rintro e w1 ⟨c1, m1, x1, h1, l1, rfl, hI1, hb1⟩
  obtain ⟨hc1, hf1⟩ := bcell hb1; have hz1 := hb1.size; (try simp only [sz_alloc, sz_drew, sz_set] at hz1 hc1 hf1); have l1_0 : w.heap.size < w1.heap.size := (by omega); have n1_0 : ¬ w.heap.size = w1.heap.size := (by omega); have m1_0 : ¬ w1.heap.size = w.heap.size := (by omega); have k1_0 := fun o => hc1 (w.heap.size) o (by omega); have f1_0 := fun o => hf1 (w.heap.size) o (by omega); (try simp (disch := (first | rfl | omega | (simp only [sz_alloc, sz_drew, sz_set]; omega))) only [sz_alloc, sz_drew, sz_set, World.cell?_drew, World.frozen?_drew, World.cell?_alloc_at, World.cell?_alloc_past, World.frozen?_alloc_at, World.frozen?_alloc_past] at k1_0 f1_0); have l1_1 : w.heap.size + 1 < w1.heap.size := (by omega); have n1_1 : ¬ w.heap.size + 1 = w1.heap.size := (by omega); have m1_1 : ¬ w1.heap.size = w.heap.size + 1 := (by omega); have k1_1 := fun o => hc1 (w.heap.size + 1) o (by omega); have f1_1 := fun o => hf1 (w.heap.size + 1) o (by omega); (try simp (disch := (first | rfl | omega | (simp only [sz_alloc, sz_drew, sz_set]; omega))) only [sz_alloc, sz_drew, sz_set, World.cell?_drew, World.frozen?_drew, World.cell?_alloc_at, World.cell?_alloc_past, World.frozen?_alloc_at, World.frozen?_alloc_past] at k1_1 f1_1)
  clear hc1 hf1
  have R1 := Lib.hid (raised_mag z1.out (by decide : 127 ≤ 127) (by have := y1.out; omega))
  have B1 : Hid (x1 = (raisedN M 127).exp ∧ (raisedN M 127).exp = x - (128 - (blen M.mag : Int))) := ⟨hI1.out.2.2.1, by rw [hM.out.2.2.1]; rfl⟩
  have o1 : -11000 ≤ x1 := by have := B1.out; omega
  have o2 : x1 ≤ 11000 := by have := B1.out; have := y1.out; omega
  go_upto_if 9 with (fail)
  go_cut [] (fun wx => ∃ (xe : Int) (h2 l2 : Nat), Hid (IsW h2 l2 (rootX M)) ∧ Hid (xe = rootE M ∧ xe % 2 = 0) ∧ -12000 ≤ xe ∧ xe ≤ 12000 ∧ wx.cell? ⟨w.heap.size, 2, none⟩ = some (.int .i64 xe) ∧ wx.cell? ⟨w.heap.size, 3, none⟩ = some (.int .u64 h2) ∧ wx.cell? ⟨w.heap.size, 4, none⟩ = some (.int .u64 l2) ∧
    At5 wx (w.heap.size + 1) 0 false 0 0 0 ∧ Below w.heap.size w wx ∧ w.heap.size + 1 < wx.heap.size)
  case first =>
    by_cases hp : x1 % 2 = 0
    · have HX : Hid (rootX M = (raisedN M 127).mag ∧ rootE M = x1) := by
        show _ ∧ _; unfold rootX rootE; rw [← B1.out.1, if_pos hp, if_pos hp]; exact ⟨rfl, rfl⟩
      have hb9 : (x1.tmod 2 != 0) = false := by rw [tmod_even hp]; rfl
      have HP := Lib.hid hp; clear hp
      go_wp2_with fail
      go_meet
      refine ⟨x1, h1, l1, by rw [HX.out.1]; exact hI1.out.2.2.2, ⟨HX.out.2.symm, HP.out⟩, by omega, by omega, ?_, ?_, ?_, ⟨?_, ?_, ?_, ?_, ?_, ?_⟩, (by repeat (first | (with_reducible first | exact Below.refl _ _ | assumption | exact Nat.le_refl _ | refine Below.drew ?_ | refine Below.alloc ?_ ?_ _ | refine Below.setCell ?_ ?_ _ | refine le_alloc ?_ | refine le_set ?_ | refine le_drew ?_ | refine below_step (by assumption) ?_ ?_ | refine le_below (by assumption) ?_) | (dsimp only; omega))), ?_⟩
      all_goals (first | (simp only [sz_set, sz_drew]; omega) | (go_simp; done) | (simp (disch := omega) [*, cell_set_far]; done))
    · have HX : Hid (rootX M = (raisedN M 127).mag / 2 ^ (1 : Int).toNat ∧ rootE M = x1 + 1) := by
        show _ ∧ _; unfold rootX rootE; rw [← B1.out.1, if_neg hp, if_neg hp]; exact ⟨rfl, rfl⟩
      have hb9 : (x1.tmod 2 != 0) = true := by rw [tmod_odd hp]
      have HP := Lib.hid hp; clear hp
      have hW : Hid (IsW h1 l1 (raisedN M 127).mag) := hI1.out.2.2.2
      go_wp2_with fail
      refine (right_c h1 l1 _ 1 hW (by decide) (by decide) _).mono ?_
      rintro e w2 ⟨h2, l2, rfl, hI2, hb2⟩
      obtain ⟨hc2, hf2⟩ := bcell hb2; have hz2 := hb2.size; (try simp only [sz_alloc, sz_drew, sz_set] at hz2 hc2 hf2); have l2_0 : w.heap.size < w2.heap.size := (by omega); have n2_0 : ¬ w.heap.size = w2.heap.size := (by omega); have m2_0 : ¬ w2.heap.size = w.heap.size := (by omega); have k2_0 := fun o => hc2 (w.heap.size) o (by omega); have f2_0 := fun o => hf2 (w.heap.size) o (by omega); (try simp (disch := (first | rfl | omega | (simp only [sz_alloc, sz_drew, sz_set]; omega))) only [sz_alloc, sz_drew, sz_set, World.cell?_drew, World.frozen?_drew, World.cell?_alloc_at, World.cell?_alloc_past, World.frozen?_alloc_at, World.frozen?_alloc_past] at k2_0 f2_0); have l2_1 : w.heap.size + 1 < w2.heap.size := (by omega); have n2_1 : ¬ w.heap.size + 1 = w2.heap.size := (by omega); have m2_1 : ¬ w2.heap.size = w.heap.size + 1 := (by omega); have k2_1 := fun o => hc2 (w.heap.size + 1) o (by omega); have f2_1 := fun o => hf2 (w.heap.size + 1) o (by omega); (try simp (disch := (first | rfl | omega | (simp only [sz_alloc, sz_drew, sz_set]; omega))) only [sz_alloc, sz_drew, sz_set, World.cell?_drew, World.frozen?_drew, World.cell?_alloc_at, World.cell?_alloc_past, World.frozen?_alloc_at, World.frozen?_alloc_past] at k2_1 f2_1)
      clear hc2 hf2
      have v2 : w2.cell? ⟨w.heap.size, 2, none⟩ = some (.int .i64 x1) := by rw [k2_0]; go_simp
      have v3 : w2.cell? ⟨w.heap.size, 3, none⟩ = some (.int .u64 h1) := by rw [k2_0]; go_simp
      have v4 : w2.cell? ⟨w.heap.size, 4, none⟩ = some (.int .u64 l1) := by rw [k2_0]; go_simp
      clear k2_0 k1_0
      go_wp2_with fail
      go_meet
      refine ⟨x1 + 1, h2, l2, by rw [HX.out.1]; exact hI2.out, ⟨HX.out.2.symm, by have := HP.out; omega⟩, by omega, by omega, ?_, ?_, ?_, ⟨?_, ?_, ?_, ?_, ?_, ?_⟩, (by repeat (first | (with_reducible first | exact Below.refl _ _ | assumption | exact Nat.le_refl _ | refine Below.drew ?_ | refine Below.alloc ?_ ?_ _ | refine Below.setCell ?_ ?_ _ | refine le_alloc ?_ | refine le_set ?_ | refine le_drew ?_ | refine below_step (by assumption) ?_ ?_ | refine le_below (by assumption) ?_) | (dsimp only; omega))), ?_⟩
      all_goals (first | (simp only [sz_set, sz_drew]; omega) | (go_simp; done) | (simp (disch := omega) [*, cell_set_far]; done))
  case rest =>
    obtain ⟨xe, h2, l2, hI2, hxe, g1, g2, p2, p3, p4, ⟨r0, r1, r2, r3, r4, r5⟩, hbc, hzc⟩ := hcut
    go_wp2_with fail
    refine (wholeRoot_c h2 l2 _ hI2 _).mono ?_
    rintro e w3 ⟨rfl, hb3⟩
    obtain ⟨hc3, hf3⟩ := bcell hb3; have hz3 := hb3.size; (try simp only [sz_alloc, sz_drew, sz_set] at hz3 hc3 hf3); have l3_0 : w.heap.size < w3.heap.size := (by omega); have n3_0 : ¬ w.heap.size = w3.heap.size := (by omega); have m3_0 : ¬ w3.heap.size = w.heap.size := (by omega); have k3_0 := fun o => hc3 (w.heap.size) o (by omega); have f3_0 := fun o => hf3 (w.heap.size) o (by omega); (try simp (disch := (first | rfl | omega | (simp only [sz_alloc, sz_drew, sz_set]; omega))) only [sz_alloc, sz_drew, sz_set, World.cell?_drew, World.frozen?_drew, World.cell?_alloc_at, World.cell?_alloc_past, World.frozen?_alloc_at, World.frozen?_alloc_past] at k3_0 f3_0); have l3_1 : w.heap.size + 1 < w3.heap.size := (by omega); have n3_1 : ¬ w.heap.size + 1 = w3.heap.size := (by omega); have m3_1 : ¬ w3.heap.size = w.heap.size + 1 := (by omega); have k3_1 := fun o => hc3 (w.heap.size + 1) o (by omega); have f3_1 := fun o => hf3 (w.heap.size + 1) o (by omega); (try simp (disch := (first | rfl | omega | (simp only [sz_alloc, sz_drew, sz_set]; omega))) only [sz_alloc, sz_drew, sz_set, World.cell?_drew, World.frozen?_drew, World.cell?_alloc_at, World.cell?_alloc_past, World.frozen?_alloc_at, World.frozen?_alloc_past] at k3_1 f3_1)
    clear hc3 hf3
    have hq : isq (rootX M) < 18446744073709551616 := isq_lt _ hI2.out.lt128
    generalize hg : isq (rootX M) = q at *
    have HG := Lib.hid hg; have HQ := Lib.hid hq; clear hg hq
    have hW : Hid (IsW 0 q q) := ⟨by decide, HQ.out, by omega⟩
    have d1 : xe.tdiv 2 = xe / 2 := Int.tdiv_eq_ediv_of_dvd (Int.dvd_of_emod_eq_zero hxe.out.2)
    have d2 : IntKind.i64.wrap (xe / 2) = xe / 2 := IntWalk.i64_in _ (by omega)
    have d3 : IntKind.i64.wrap (xe / 2 - 1) = xe / 2 - 1 := IntWalk.i64_in _ (by omega)
    go_wp2_with fail
    go_region_held3 (fun w' => w'.cell? ⟨w.heap.size, 2, none⟩ = some (.int .i64 xe) ∧ w'.cell? ⟨w.heap.size, 3, none⟩ = some (.int .u64 h2) ∧ w'.cell? ⟨w.heap.size, 4, none⟩ = some (.int .u64 l2)) (all_goals (first | (go_keep; done) | (simp (disch := omega) only [cell_set_far]; simp [*])))
      (first
        | (go_at_call 83; refine (left_c 0 q q 1 hW (by decide) (by decide) _).mono ?_; rintro e w4 ⟨h4, l4, rfl, hI4, hb4⟩; obtain ⟨hc4, hf4⟩ := bcell hb4; have hz4 := hb4.size; (try simp only [sz_alloc, sz_drew, sz_set] at hz4 hc4 hf4); have l4_0 : w.heap.size < w4.heap.size := (by omega); have n4_0 : ¬ w.heap.size = w4.heap.size := (by omega); have m4_0 : ¬ w4.heap.size = w.heap.size := (by omega); have k4_0 := fun o => hc4 (w.heap.size) o (by omega); have f4_0 := fun o => hf4 (w.heap.size) o (by omega); (try simp (disch := (first | rfl | omega | (simp only [sz_alloc, sz_drew, sz_set]; omega))) only [sz_alloc, sz_drew, sz_set, World.cell?_drew, World.frozen?_drew, World.cell?_alloc_at, World.cell?_alloc_past, World.frozen?_alloc_at, World.frozen?_alloc_past, hc3, hf3] at k4_0 f4_0); have l4_1 : w.heap.size + 1 < w4.heap.size := (by omega); have n4_1 : ¬ w.heap.size + 1 = w4.heap.size := (by omega); have m4_1 : ¬ w4.heap.size = w.heap.size + 1 := (by omega); have k4_1 := fun o => hc4 (w.heap.size + 1) o (by omega); have f4_1 := fun o => hf4 (w.heap.size + 1) o (by omega); (try simp (disch := (first | rfl | omega | (simp only [sz_alloc, sz_drew, sz_set]; omega))) only [sz_alloc, sz_drew, sz_set, World.cell?_drew, World.frozen?_drew, World.cell?_alloc_at, World.cell?_alloc_past, World.frozen?_alloc_at, World.frozen?_alloc_past, hc3, hf3] at k4_1 f4_1))
        | (go_at_call 71; refine (multiply_c q q HQ.out HQ.out _).mono ?_; rintro e w6 ⟨h6, l6, rfl, hI6, hb6⟩; obtain ⟨hc6, hf6⟩ := bcell hb6; have hz6 := hb6.size; (try simp only [sz_alloc, sz_drew, sz_set] at hz6 hc6 hf6); have l6_0 : w.heap.size < w6.heap.size := (by omega); have n6_0 : ¬ w.heap.size = w6.heap.size := (by omega); have m6_0 : ¬ w6.heap.size = w.heap.size := (by omega); have k6_0 := fun o => hc6 (w.heap.size) o (by omega); have f6_0 := fun o => hf6 (w.heap.size) o (by omega); (try simp (disch := (first | rfl | omega | (simp only [sz_alloc, sz_drew, sz_set]; omega))) only [sz_alloc, sz_drew, sz_set, World.cell?_drew, World.frozen?_drew, World.cell?_alloc_at, World.cell?_alloc_past, World.frozen?_alloc_at, World.frozen?_alloc_past, hc3, hf3] at k6_0 f6_0); have l6_1 : w.heap.size + 1 < w6.heap.size := (by omega); have n6_1 : ¬ w.heap.size + 1 = w6.heap.size := (by omega); have m6_1 : ¬ w6.heap.size = w.heap.size + 1 := (by omega); have k6_1 := fun o => hc6 (w.heap.size + 1) o (by omega); have f6_1 := fun o => hf6 (w.heap.size + 1) o (by omega); (try simp (disch := (first | rfl | omega | (simp only [sz_alloc, sz_drew, sz_set]; omega))) only [sz_alloc, sz_drew, sz_set, World.cell?_drew, World.frozen?_drew, World.cell?_alloc_at, World.cell?_alloc_past, World.frozen?_alloc_at, World.frozen?_alloc_past, hc3, hf3] at k6_1 f6_1))
        | (go_at_call 84; refine (sticky_c h4 l4 _ _ hI4 _).mono ?_; rintro e w5 ⟨h5, l5, rfl, hI5, hb5⟩; obtain ⟨hc5, hf5⟩ := bcell hb5; have hz5 := hb5.size; (try simp only [sz_alloc, sz_drew, sz_set] at hz5 hc5 hf5); have l5_0 : w.heap.size < w5.heap.size := (by omega); have n5_0 : ¬ w.heap.size = w5.heap.size := (by omega); have m5_0 : ¬ w5.heap.size = w.heap.size := (by omega); have k5_0 := fun o => hc5 (w.heap.size) o (by omega); have f5_0 := fun o => hf5 (w.heap.size) o (by omega); (try simp (disch := (first | rfl | omega | (simp only [sz_alloc, sz_drew, sz_set]; omega))) only [sz_alloc, sz_drew, sz_set, World.cell?_drew, World.frozen?_drew, World.cell?_alloc_at, World.cell?_alloc_past, World.frozen?_alloc_at, World.frozen?_alloc_past, hc4, hc6, hc3, hf4, hf6, hf3] at k5_0 f5_0); have l5_1 : w.heap.size + 1 < w5.heap.size := (by omega); have n5_1 : ¬ w.heap.size + 1 = w5.heap.size := (by omega); have m5_1 : ¬ w5.heap.size = w.heap.size + 1 := (by omega); have k5_1 := fun o => hc5 (w.heap.size + 1) o (by omega); have f5_1 := fun o => hf5 (w.heap.size + 1) o (by omega); (try simp (disch := (first | rfl | omega | (simp only [sz_alloc, sz_drew, sz_set]; omega))) only [sz_alloc, sz_drew, sz_set, World.cell?_drew, World.frozen?_drew, World.cell?_alloc_at, World.cell?_alloc_past, World.frozen?_alloc_at, World.frozen?_alloc_past, hc4, hc6, hc3, hf4, hf6, hf3] at k5_1 f5_1)))
    all_goals go_wp2_with fail
    all_goals refine bodyPost_ret (v := .agg #[.int .i64 1, .bool false, .int .i64 (xe / 2 - 1), .int .u64 h5, .int .u64 l5]) (by simp [results, Try.results57, go_sem, k5_1, k4_1, k3_1, k6_1, r0, r1, r2, r3, r4, sz_set] <;> (first | rfl | (repeat' (first | rfl | apply And.intro)))) rfl (retN_mk ?_ rfl rfl (by repeat (first | (with_reducible first | exact Below.refl _ _ | assumption | exact Nat.le_refl _ | refine Below.drew ?_ | refine Below.alloc ?_ ?_ _ | refine Below.setCell ?_ ?_ _ | refine le_alloc ?_ | refine le_set ?_ | refine le_drew ?_ | refine below_step (by assumption) ?_ ?_ | refine le_below (by assumption) ?_) | (dsimp only; omega))))
    all_goals
      have hI := hI5.out
      rw [eqW_of hI6.out hI2.out] at hI
      refine ⟨rfl, rfl, ?_, ?_⟩
      · rw [hxe.out.1]; rfl
      · unfold rootN stickyN; rw [HG.out]; exact hI
end Go.Proofs.Ythjdeopfbjmmeaa
