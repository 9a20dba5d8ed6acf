/- Heap sort of numbers: siftDown. -/
import Derived.Test.YtibgdlianedcbaaN4
import Derived.Test.YtibgdlianedcbaaB12
namespace Go.Proofs.Ytibgdlianedcbaa
open Go.Maps Go.WideMaps Go.ChangeShapes Go.WideShapes Go.ChangeAt Go.RowKit
set_option linter.unusedVariables false
set_option linter.unusedSimpArgs false
theorem RowU.cell {w : World} {g n : Nat} {X : Nat → Nat} (h : RowU w g n X) (i : Nat) (hi : i < n) : w.cell? ⟨g, i, none⟩ = some (.int .u64 (X i : Nat)) := (h.2 i hi).1
theorem RowU.free {w : World} {g n : Nat} {X : Nat → Nat} (h : RowU w g n X) (i : Nat) (hi : i < n) : w.frozen? ⟨g, i, none⟩ = false := (h.2 i hi).2
/-- A quiet call behind another quiet region. -/
theorem quiet2 {P : Program} {f : FuncId} {args : Array Value} {w : World} {a n : Nat} {v : Value} (h : Calls P f args (w.drewN (a + n)) fun e w' => e = .returned v ∧ w' = w.drewN (a + n)) : Calls P f args (w.drewN (a + n)) fun e w'' => e = .returned v ∧ ∃ m, w'' = w.drewN (a + m) :=
  h.mono fun _ _ q => ⟨q.1, n, q.2⟩
/-- A heap was made from lo on. -/
def Sifting (g n f lo hi : Nat) (X : Nat → Nat) (W w' : World) : Prop := ∃ Y, RowU w' g n Y ∧ Sw f (f + hi) X Y ∧ Heap Y f lo hi ∧ W.grownBy w' (some g)
set_option maxRecDepth 100000 in
set_option maxHeartbeats 4000000 in
theorem sift_c (g n c0 lo hi f : Nat) (X : Nat → Nat) (w : World) (hR : Hid (RowU w g n X)) (hb : Hid (f + hi ≤ n ∧ lo ≤ n ∧ n < 1152921504606846976)) (hH : Hid (Heap X f (lo + 1) hi)) :
    Calls Try.prog 46 #[.slice (some ⟨g, 0, none⟩) n c0, .int .i64 lo, .int .i64 hi, .int .i64 f] w (fun e w' => e = .returned (.tuple #[]) ∧ Sifting g n f lo hi X w w') := by
  go_enter Try.func46, Try.ntmps46
  go_wp2_with fail
  go_loopw [8] (fun s8 wr => ∃ (r : Nat) (Y : Nat → Nat), s8 = .int .i64 r ∧ r ≤ n ∧ Hid (RowU wr g n Y ∧ Sw f (f + hi) X Y ∧ Sift Y f lo hi r ∧ w.grownBy wr (some g))) (fun s8 _ => hi - (intOf s8).toNat)
  case atStart => exact ⟨lo, X, rfl, hb.out.2.1, hR.out, .refl, Sift.start hH.out, grown_refl _ _⟩
  case round =>
    obtain ⟨r, Y, rfl, hrn, HI⟩ := hrel
    have n60 : (n : Int) < 1152921504606846976 := by have := hb.out; omega
    have fn : (f : Int) + (hi : Int) ≤ n := by have := hb.out; omega
    have rn : (r : Int) ≤ n := by omega
    obtain ⟨c, hc⟩ : ∃ c, c = 2 * r + 1 := ⟨_, rfl⟩
    have ec : 2 * (r : Int) + 1 = (c : Int) := by omega
    have HC := Lib.hid hc
    by_cases h1 : c < hi
    · have h1' : ¬ ((hi : Int) ≤ c) := by omega
      have h1'' : (c : Int) < hi := by omega
      have q1 := HI.out.1.cell (f + c) (by have := hb.out; omega)
      have q0 := HI.out.1.cell (f + r) (by have := hb.out; omega)
      have z1 := HI.out.1.free (f + c) (by have := hb.out; omega)
      have z0 := HI.out.1.free (f + r) (by have := hb.out; omega)
      have HH := Lib.hid h1
      have frn : (f : Int) + (r : Int) < n := by have := hb.out; omega
      have fcn : (f : Int) + (c : Int) < n := by have := hb.out; omega
      have wfr : IntKind.i64.wrap ((f : Int) + (r : Int)) = (f : Int) + (r : Int) := IntWalk.i64_in _ (by omega)
      have wfc : IntKind.i64.wrap ((f : Int) + (c : Int)) = (f : Int) + (c : Int) := IntWalk.i64_in _ (by omega)
      have tr : ((f : Int) + (r : Int)).toNat = f + r := by omega
      have tc : ((f : Int) + (c : Int)).toNat = f + c := by omega
      have nr : (0 : Int) ≤ (f : Int) + (r : Int) := by omega
      have nc : (0 : Int) ≤ (f : Int) + (c : Int) := by omega
      have frN : f + r < n := by omega
      have fcN : f + c < n := by omega
      have hrc : ¬ f + r = f + c := by omega
      have hcr : ¬ f + c = f + r := by omega
      have hrc1 : ¬ r = c := by omega
      have hcr1 : ¬ c = r := by omega
      clear hc h1
      by_cases h2 : c + 1 < hi
      · have h2' : (c : Int) + 1 < hi := by omega
        have q2 := HI.out.1.cell (f + c + 1) (by have := hb.out; omega)
        have fdn : (f : Int) + (c : Int) + 1 < n := by have := hb.out; omega
        have HH2 := Lib.hid h2
        clear h2
        cases hl : decide (Y (f + c) < Y (f + c + 1))
        · have HL1 := Lib.hid hl
          clear hl
          have HMX : Hid (∀ d, (d = 2 * r + 1 ∨ d = 2 * r + 2) → d < hi → Y (f + d) ≤ Y (f + c)) := fun d hd hdh => by
            have h := of_decide_eq_false HL1.out
            have e := HC.out
            rcases hd with rfl | rfl
            · rw [← e]; exact Nat.le_refl _
            · rw [show f + (2 * r + 2) = f + c + 1 by omega]; omega
          go_wp2_with fail
          go_quiet ((go_at_call 41; exact Calls.quiet_of_same (less_c _ _ false HL1 _)))
          go_wp2_with fail
          cases hl : decide (Y (f + r) < Y (f + c))
          · have HL2 := Lib.hid hl
            clear hl
            go_quiet ((go_at_call 41; exact quiet2 (less_c _ _ false HL2 _)))
            go_wp2_with fail
            exact bodyPost_ret (v := .tuple #[]) (by simp [results, Try.results46, go_sem] <;> (first | rfl | (repeat' (first | rfl | apply And.intro)))) rfl ⟨rfl, Y, HI.out.1, HI.out.2.1, HI.out.2.2.1.stop (Or.inl HC.out) HMX.out (by have := of_decide_eq_false HL2.out; omega), by exact grown_drewN' (grown_drewN' HI.out.2.2.2 _) _⟩
          · have HL2 := Lib.hid hl
            clear hl
            go_quiet ((go_at_call 41; exact quiet2 (less_c _ _ true HL2 _)))
            go_wp2_with fail
            go_region
            go_wp2_with fail
            go_roundw
            case rel => exact ⟨c, swp Y (f + r) (f + c), by first | rfl | (have h1 := HC.out; have h2 := HD.out.1; congr 1 <;> omega), by have := hb.out; have := HH.out; omega, (HI.out.1.swap (f + r) (f + c) (by have := hb.out; have := HC.out; have h2 := HC.out; have := HH.out; omega) (by have := hb.out; have := HH.out; omega)).drewN 1, .step Y _ _ HI.out.2.1 (by omega) (by have := HC.out; have h2 := HC.out; have := HH.out; omega) (by omega) (by have := HH.out; omega), HI.out.2.2.1.next (Or.inl HC.out) HH.out HMX.out (of_decide_eq_true HL2.out), by exact grown_set (grown_set (grown_drewN' HI.out.2.2.2 _) _ none _ none) _ none _ none⟩
            case measure => have := HC.out; have := HH.out; simp [intOf]; omega
        · have HL1 := Lib.hid hl
          clear hl
          have HMX : Hid (∀ d, (d = 2 * r + 1 ∨ d = 2 * r + 2) → d < hi → Y (f + d) ≤ Y (f + (c + 1))) := fun d hd hdh => by
            have h := of_decide_eq_true HL1.out
            have e := HC.out
            rcases hd with rfl | rfl
            · rw [← e, show f + (c + 1) = f + c + 1 by omega]; omega
            · rw [show f + (2 * r + 2) = f + (c + 1) by omega]; exact Nat.le_refl _
          go_wp2_with fail
          go_quiet ((go_at_call 41; exact Calls.quiet_of_same (less_c _ _ true HL1 _)))
          go_wp2_with fail
          obtain ⟨d, hd⟩ : ∃ d, d = c + 1 := ⟨_, rfl⟩
          have ed : (c : Int) + 1 = (d : Int) := by omega
          have HD : Hid (d = 2 * r + 2 ∧ d < hi) := by have := HC.out; have := HH2.out; show _ ∧ _; omega
          have q3 := HI.out.1.cell (f + d) (by have := hb.out; have := HD.out; omega)
          have z3 := HI.out.1.free (f + d) (by have := hb.out; have := HD.out; omega)
          have fd2 : (f : Int) + (d : Int) < n := by have := hb.out; have := HD.out; omega
          have wfd : IntKind.i64.wrap ((f : Int) + (d : Int)) = (f : Int) + (d : Int) := IntWalk.i64_in _ (by omega)
          have td : ((f : Int) + (d : Int)).toNat = f + d := by omega
          have nd : (0 : Int) ≤ (f : Int) + (d : Int) := by omega
          have fdN : f + d < n := by omega
          have hrd : ¬ f + r = f + d := by have := HD.out; omega
          have hdr : ¬ f + d = f + r := by have := HD.out; omega
          have hrd1 : ¬ r = d := by have := HD.out; omega
          have hdr1 : ¬ d = r := by have := HD.out; omega
          have hdhi : (d : Int) < hi := by have := HD.out; omega
          rw [← hd] at HMX
          clear hd q2 fdn h2' hrc hcr hrc1 hcr1 q1 z1 fcn ec wfc tc nc fcN
          go_wp2_with fail
          cases hl : decide (Y (f + r) < Y (f + d))
          · have HL2 := Lib.hid hl
            clear hl
            go_quiet ((go_at_call 41; exact quiet2 (less_c _ _ false HL2 _)))
            go_wp2_with fail
            exact bodyPost_ret (v := .tuple #[]) (by simp [results, Try.results46, go_sem] <;> (first | rfl | (repeat' (first | rfl | apply And.intro)))) rfl ⟨rfl, Y, HI.out.1, HI.out.2.1, HI.out.2.2.1.stop (Or.inr HD.out.1) HMX.out (by have := of_decide_eq_false HL2.out; omega), by exact grown_drewN' (grown_drewN' HI.out.2.2.2 _) _⟩
          · have HL2 := Lib.hid hl
            clear hl
            go_quiet ((go_at_call 41; exact quiet2 (less_c _ _ true HL2 _)))
            go_wp2_with fail
            go_region
            go_wp2_with fail
            go_roundw
            case rel => exact ⟨d, swp Y (f + r) (f + d), by first | rfl | (have h1 := HC.out; have h2 := HD.out.1; congr 1 <;> omega), by have := hb.out; have := HD.out.2; omega, (HI.out.1.swap (f + r) (f + d) (by have := hb.out; have := HC.out; have h2 := HD.out.1; have := HD.out.2; omega) (by have := hb.out; have := HD.out.2; omega)).drewN 1, .step Y _ _ HI.out.2.1 (by omega) (by have := HC.out; have h2 := HD.out.1; have := HD.out.2; omega) (by omega) (by have := HD.out.2; omega), HI.out.2.2.1.next (Or.inr HD.out.1) HD.out.2 HMX.out (of_decide_eq_true HL2.out), by exact grown_set (grown_set (grown_drewN' HI.out.2.2.2 _) _ none _ none) _ none _ none⟩
            case measure => have := HC.out; have := HD.out; simp [intOf]; omega
      · have h2' : decide ((c : Int) + 1 < hi) = false := decide_eq_false (by omega)
        have HMX : Hid (∀ d, (d = 2 * r + 1 ∨ d = 2 * r + 2) → d < hi → Y (f + d) ≤ Y (f + c)) := fun d hd hdh => by
          have e := HC.out
          rcases hd with rfl | rfl
          · rw [← e]; exact Nat.le_refl _
          · omega
        clear h2
        go_wp2_with fail
        go_quiet (fail)
        go_wp2_with fail
        cases hl : decide (Y (f + r) < Y (f + c))
        · have HL2 := Lib.hid hl
          clear hl
          go_quiet ((go_at_call 41; exact quiet2 (less_c _ _ false HL2 _)))
          go_wp2_with fail
          exact bodyPost_ret (v := .tuple #[]) (by simp [results, Try.results46, go_sem] <;> (first | rfl | (repeat' (first | rfl | apply And.intro)))) rfl ⟨rfl, Y, HI.out.1, HI.out.2.1, HI.out.2.2.1.stop (Or.inl HC.out) HMX.out (by have := of_decide_eq_false HL2.out; omega), by exact grown_drewN' (grown_drewN' HI.out.2.2.2 _) _⟩
        · have HL2 := Lib.hid hl
          clear hl
          go_quiet ((go_at_call 41; exact quiet2 (less_c _ _ true HL2 _)))
          go_wp2_with fail
          go_region
          go_wp2_with fail
          go_roundw
          case rel => exact ⟨c, swp Y (f + r) (f + c), by first | rfl | (have h1 := HC.out; have h2 := HD.out.1; congr 1 <;> omega), by have := hb.out; have := HH.out; omega, (HI.out.1.swap (f + r) (f + c) (by have := hb.out; have := HC.out; have h2 := HC.out; have := HH.out; omega) (by have := hb.out; have := HH.out; omega)).drewN 1, .step Y _ _ HI.out.2.1 (by omega) (by have := HC.out; have h2 := HC.out; have := HH.out; omega) (by omega) (by have := HH.out; omega), HI.out.2.2.1.next (Or.inl HC.out) HH.out HMX.out (of_decide_eq_true HL2.out), by exact grown_set (grown_set (grown_drewN' HI.out.2.2.2 _) _ none _ none) _ none _ none⟩
          case measure => have := HC.out; have := HH.out; simp [intOf]; omega
    · have h1' : (hi : Int) ≤ c := by omega
      have HN : Hid (hi ≤ 2 * r + 1) := by show _ ≤ _; omega
      clear hc h1
      go_wp2_with fail
      go_end0
      exact ⟨rfl, Y, HI.out.1, HI.out.2.1, HI.out.2.2.1.leaf HN.out, HI.out.2.2.2⟩
end Go.Proofs.Ytibgdlianedcbaa
