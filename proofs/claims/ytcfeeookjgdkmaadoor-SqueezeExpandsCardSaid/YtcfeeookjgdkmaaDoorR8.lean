/- The document's own answers: Expand, Short, Shrink. -/
import Derived.Test.YtcfeeookjgdkmaaDoorR5
import Derived.Test.YtcfeeookjgdkmaaDoorR6
import Derived.Test.YtcfeeookjgdkmaaDoorR7
namespace Go.Proofs.YtcfeeookjgdkmaaDoor
open Go.ChangeShapes Go.WideShapes Go.ChangeAt Go.RowKit
set_option linter.unusedVariables false
set_option linter.unusedSimpArgs false

theorem exp_0 (h : Nat) (hk : bitsD h 1 0 = 0) : expandD h = zeroD h := by unfold expandD; rw [sel_at _ _ hk]
theorem exp_1 (h : Nat) (hk : bitsD h 1 0 = 1) : expandD h = oneD h := by unfold expandD; rw [sel_ne _ _ (by rw [hk]; decide), sel_at _ _ hk]
theorem exp_2 (h : Nat) (hk : bitsD h 1 0 = 2) : expandD h = twoD h := by unfold expandD; rw [sel_ne _ _ (by rw [hk]; decide), sel_ne _ _ (by rw [hk]; decide), sel_at _ _ hk]
theorem exp_3 (h : Nat) (hk : bitsD h 1 0 = 3) : expandD h = 0 := by unfold expandD; rw [sel_ne _ _ (by rw [hk]; decide), sel_ne _ _ (by rw [hk]; decide), sel_ne _ _ (by rw [hk]; decide)]
set_option maxRecDepth 100000 in
theorem ExpandD_c (h : Nat) (hh : Hid (h < 65536)) (w : World) : Calls Tryd.prog 8 #[.int .u16 h] w (RetP (expandD h) (expandD h != 0) w) := by
  obtain ⟨k, hk⟩ : ∃ k, bitsD h 1 0 = k := ⟨_, rfl⟩
  have hk4 : k < 4 := by rw [← hk]; exact bitsD_lt h 1 0 4 rfl
  have HK := Lib.hid hk
  clear hk
  have hc : k = 0 ∨ k = 1 ∨ k = 2 ∨ k = 3 := by omega
  clear hk4
  rcases hc with rfl | rfl | rfl | rfl
  · have HE := Lib.hid (exp_0 h HK.out)
    have hz : (((expandD h : Nat) : Int) != 0) = (expandD h != 0) := by
      cases hb : (expandD h != 0) with
      | true => rw [bne_iff_ne] at hb ⊢; omega
      | false => rw [bne_eq_false_iff_eq] at hb; rw [hb]; rfl
    have HC := Lib.hid (fun v => zero_c h hh v)
    rw [← HE.out] at HC
    generalize expandD h = y at *
    go_enter Tryd.func8, Tryd.ntmps8
    go_wp2_with fail
    refine (bits_k h 1 0 0 hh (by decide) (by decide) HK.out _).mono ?_; rintro e u ⟨rfl, rfl⟩
    go_wp2_with fail
    refine (HC.out _).mono ?_; rintro e w1 ⟨rfl, hb1⟩
    go_wp2_with fail
    refine bodyPost_ret (v := .tuple #[.int .u32 y, .bool (y != 0)]) (by simp [results, Tryd.results8, go_sem] <;> (first | rfl | (repeat' (first | rfl | apply And.intro)))) rfl ⟨rfl, hb1⟩
  · have HE := Lib.hid (exp_1 h HK.out)
    have hz : (((expandD h : Nat) : Int) != 0) = (expandD h != 0) := by
      cases hb : (expandD h != 0) with
      | true => rw [bne_iff_ne] at hb ⊢; omega
      | false => rw [bne_eq_false_iff_eq] at hb; rw [hb]; rfl
    have HC := Lib.hid (fun v => one_c h hh v)
    rw [← HE.out] at HC
    generalize expandD h = y at *
    go_enter Tryd.func8, Tryd.ntmps8
    go_wp2_with fail
    refine (bits_k h 1 0 1 hh (by decide) (by decide) HK.out _).mono ?_; rintro e u ⟨rfl, rfl⟩
    go_wp2_with fail
    refine (HC.out _).mono ?_; rintro e w1 ⟨rfl, hb1⟩
    go_wp2_with fail
    refine bodyPost_ret (v := .tuple #[.int .u32 y, .bool (y != 0)]) (by simp [results, Tryd.results8, go_sem] <;> (first | rfl | (repeat' (first | rfl | apply And.intro)))) rfl ⟨rfl, hb1⟩
  · have HE := Lib.hid (exp_2 h HK.out)
    have hz : (((expandD h : Nat) : Int) != 0) = (expandD h != 0) := by
      cases hb : (expandD h != 0) with
      | true => rw [bne_iff_ne] at hb ⊢; omega
      | false => rw [bne_eq_false_iff_eq] at hb; rw [hb]; rfl
    have HC := Lib.hid (fun v => two_c h hh v)
    rw [← HE.out] at HC
    generalize expandD h = y at *
    go_enter Tryd.func8, Tryd.ntmps8
    go_wp2_with fail
    refine (bits_k h 1 0 2 hh (by decide) (by decide) HK.out _).mono ?_; rintro e u ⟨rfl, rfl⟩
    go_wp2_with fail
    refine (HC.out _).mono ?_; rintro e w1 ⟨rfl, hb1⟩
    go_wp2_with fail
    refine bodyPost_ret (v := .tuple #[.int .u32 y, .bool (y != 0)]) (by simp [results, Tryd.results8, go_sem] <;> (first | rfl | (repeat' (first | rfl | apply And.intro)))) rfl ⟨rfl, hb1⟩
  · have HE := Lib.hid (exp_3 h HK.out)
    go_enter Tryd.func8, Tryd.ntmps8
    go_wp2_with fail
    refine (bits_k h 1 0 3 hh (by decide) (by decide) HK.out _).mono ?_; rintro e u ⟨rfl, rfl⟩
    go_wp2_with fail
    refine bodyPost_ret (v := .tuple #[.int .u32 0, .bool false]) (by simp [results, Tryd.results8, go_sem] <;> (first | rfl | (repeat' (first | rfl | apply And.intro)))) rfl ⟨by rw [HE.out]; rfl, (by repeat (first | (with_reducible first | exact Below.refl _ _ | assumption | exact Nat.le_refl _ | refine Below.drew ?_ | refine Below.alloc ?_ ?_ _ | refine Below.setCell ?_ ?_ _ | refine le_alloc ?_ | refine le_set ?_ | refine le_drew ?_ | refine below_step (by assumption) ?_ ?_ | refine le_below (by assumption) ?_) | (dsimp only; omega)))⟩
theorem ShortD_c (h : Nat) (hh : Hid (h < 65536)) (w : World) : Calls Tryd.prog 11 #[.int .u16 h] w (fun e w' => e = .returned (.bool (decide (h % 4 < 3))) ∧ w = w') := by
  have e : bitsD h 1 0 = h % 4 := by unfold bitsD; simp
  obtain ⟨k, hk⟩ : ∃ k, k = h % 4 := ⟨_, rfl⟩
  have hk4 : k < 4 := by rw [hk]; exact Nat.mod_lt _ (by decide)
  rw [← hk] at e ⊢
  have HE := Lib.hid e
  clear e hk
  have hc : k = 0 ∨ k = 1 ∨ k = 2 ∨ k = 3 := by omega
  clear hk4
  rcases hc with rfl | rfl | rfl | rfl
  all_goals
    go_enter Tryd.func11, Tryd.ntmps11
    go_wp2_with fail
    refine (bits_k h 1 0 _ hh (by decide) (by decide) HE.out _).mono ?_; rintro e u ⟨rfl, rfl⟩
    go_wp2_with fail
    go_ret
    exact ⟨rfl, rfl⟩
/-- None below n stands for it. -/
def NoneD (x n : Nat) : Prop := ∀ h, h < n → ¬ (expandD h ≠ 0 ∧ expandD h = x)
theorem noneD_step {x n : Nat} (h : NoneD x n) (hn : ¬ (expandD n ≠ 0 ∧ expandD n = x)) : NoneD x (n + 1) := by
  intro k hk
  by_cases e : k = n
  · subst e; exact hn
  · exact h k (by omega)
theorem shrink_at {x n : Nat} (h : NoneD x n) (hn : n < 65536) (h0 : expandD n ≠ 0) (h1 : expandD n = x) : shrinkF x = (n, true) := by
  have e : expandF n = (x, true) := by rw [expand_eq hn, h1]; rw [h1] at h0; simp [h0]
  obtain ⟨l, hl, hle⟩ := shrink_least hn e
  obtain ⟨q1, q2⟩ := shrink_some hl
  rw [expand_eq q2] at q1
  obtain ⟨r1, r2⟩ := Prod.mk.inj q1
  rw [bne_iff_ne] at r2
  have : ¬ l < n := fun hc => h l hc ⟨r2, r1⟩
  rw [hl, show l = n by omega]
theorem shrink_all {x : Nat} (h : NoneD x 65536) : shrinkF x = (0, false) := by
  obtain ⟨⟨l, b⟩, hp⟩ : ∃ p, p = shrinkF x := ⟨_, rfl⟩
  cases b with
  | false => rw [← hp, shrink_none hp.symm]
  | true =>
    obtain ⟨q1, q2⟩ := shrink_some hp.symm
    rw [expand_eq q2] at q1
    obtain ⟨r1, r2⟩ := Prod.mk.inj q1
    rw [bne_iff_ne] at r2
    exact absurd ⟨r2, r1⟩ (h l q2)
set_option maxRecDepth 100000 in
theorem ShrinkD_c (x : Nat) (hx : Hid (x < 4294967296)) (w : World) : Calls Tryd.prog 13 #[.int .u32 x] w (RetQ (shrinkF x).1 (shrinkF x).2 w) := by
  go_enter Tryd.func13, Tryd.ntmps13
  go_wp2_with fail
  go_loopw [4] (fun i wr => ∃ k : Nat, k ≤ 65536 ∧ i = .int .i64 k ∧ Hid (NoneD x k) ∧ Below w.heap.size w wr) (fun i _ => 65536 - (intOf i).toNat)
  case atStart => exact ⟨0, by omega, rfl, fun h hc => absurd hc (by omega), (by repeat (first | (with_reducible first | exact Below.refl _ _ | assumption | exact Nat.le_refl _ | refine Below.drew ?_ | refine Below.alloc ?_ ?_ _ | refine Below.setCell ?_ ?_ _ | refine le_alloc ?_ | refine le_set ?_ | refine le_drew ?_ | refine below_step (by assumption) ?_ ?_ | refine le_below (by assumption) ?_) | (dsimp only; omega)))⟩
  case round =>
    obtain ⟨k, hk, rfl, hN, hbw⟩ := hrel
    by_cases hlt : k < 65536
    · have hlt' : (k : Int) < 65536 := by omega
      have HE := Lib.hid (fun v => ExpandD_c k hlt v)
      have e16 : (k : Int) % 65536 = (k : Int) := by omega
      have HS := Lib.hid (fun hn => noneD_step (x := x) (n := k) hN.out hn)
      have HA := Lib.hid (fun h0 h1 => shrink_at (x := x) (n := k) hN.out hlt h0 h1)
      generalize expandD k = y at *
      by_cases h0 : y = 0
      · have hz : (y != 0) = false := by rw [h0]; rfl
        rw [hz] at HE
        have HN := Lib.hid (HS.out (fun hc => hc.1 h0))
        clear h0 hz HS HA
        go_wp2_with fail
        refine (HE.out _).mono ?_; rintro e w1 ⟨rfl, hb1⟩
        go_wp2_with fail
        go_roundw
        case rel => exact ⟨k + 1, by omega, by go_num, HN.out, below_step hb1 hbw hbw.size⟩
        case measure => simp [intOf]; omega
      · have hz : (y != 0) = true := by rw [bne_iff_ne]; exact h0
        rw [hz] at HE
        by_cases h1 : y = x
        · have HV := Lib.hid (HA.out h0 h1)
          have hq : ((y : Int) == (x : Int)) = true := by rw [h1]; simp
          clear h0 h1 hz HS HA
          go_wp2_with fail
          refine (HE.out _).mono ?_; rintro e w1 ⟨rfl, hb1⟩
          go_wp2_with fail
          refine bodyPost_ret (v := .tuple #[.int .u16 k, .bool true]) (by simp [results, Tryd.results13, go_sem] <;> (first | rfl | (repeat' (first | rfl | apply And.intro)))) rfl ⟨by rw [HV.out], below_step hb1 hbw hbw.size⟩
        · have HN := Lib.hid (HS.out (fun hc => h1 hc.2))
          have hq : ((y : Int) == (x : Int)) = false := by rw [beq_eq_false_iff_ne]; omega
          clear h0 h1 hz HS HA
          go_wp2_with fail
          refine (HE.out _).mono ?_; rintro e w1 ⟨rfl, hb1⟩
          go_wp2_with fail
          go_roundw
          case rel => exact ⟨k + 1, by omega, by go_num, HN.out, below_step hb1 hbw hbw.size⟩
          case measure => simp [intOf]; omega
    · obtain rfl : k = 65536 := by omega
      have hlt' : ¬ (((65536 : Nat) : Int) < 65536) := by omega
      have HV := Lib.hid (shrink_all hN.out)
      go_wp2_with fail
      refine bodyPost_ret (v := .tuple #[.int .u16 0, .bool false]) (by simp [results, Tryd.results13, go_sem] <;> (first | rfl | (repeat' (first | rfl | apply And.intro)))) rfl ⟨by rw [HV.out]; rfl, hbw⟩
end Go.Proofs.YtcfeeookjgdkmaaDoor
