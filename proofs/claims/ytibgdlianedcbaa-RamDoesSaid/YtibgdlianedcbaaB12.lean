/- Insertion sort of numbers. -/
import Derived.Test.YtibgdlianedcbaaB11
import Derived.Test.YtibgdlianedcbaaN1
import Derived.Deep.LoopGhost
namespace Go.Proofs.Ytibgdlianedcbaa
open Go.Maps Go.WideMaps Go.ChangeShapes Go.WideShapes Go.ChangeAt Go.RowKit
set_option linter.unusedVariables false
set_option linter.unusedSimpArgs false
theorem nan_c (x : Int) (w : World) : Calls Try.prog 51 #[.int .u64 x] w (fun e w' => e = .returned (.bool false) ∧ w' = w) := by
  go_enter Try.func51, Try.ntmps51
  go_wp2_with fail
  go_ret
  exact ⟨rfl, rfl⟩
theorem less_c (x y : Nat) (b : Bool) (hb : Hid (decide (x < y) = b)) (w : World) : Calls Try.prog 41 #[.int .u64 x, .int .u64 y] w (fun e w' => e = .returned (.bool b) ∧ w' = w) := by
  go_enter Try.func41, Try.ntmps41
  go_wp2_with fail
  refine (nan_c x w).mono ?_; rintro e w1 ⟨rfl, h1⟩
  subst h1
  go_wp2_with fail
  go_ret
  refine ⟨?_, rfl⟩
  rw [← hb.out]
  congr 2
theorem grown_drewN' {a b : World} {r : Option Nat} (h : a.grownBy b r) (n : Nat) : a.grownBy (b.drewN n) r := ⟨h.os, h.tape, h.output, h.size, h.block⟩
def RowU (w : World) (g n : Nat) (X : Nat → Nat) : Prop := g < w.heap.size ∧ ∀ i, i < n → w.cell? ⟨g, i, none⟩ = some (.int .u64 (X i : Nat)) ∧ w.frozen? ⟨g, i, none⟩ = false
theorem RowU.drewN {w : World} {g n : Nat} {X : Nat → Nat} (h : RowU w g n X) (k : Nat) : RowU (w.drewN k) g n X := h
theorem RowU.set {w : World} {g n : Nat} {X Y : Nat → Nat} (h : RowU w g n X) (i x : Nat) (hi : i < n) (hY : ∀ k, k < n → Y k = if k = i then x else X k) : RowU (w.setCell ⟨g, i, none⟩ (.int .u64 (x : Nat))) g n Y := by
  obtain ⟨h0, h1⟩ := h
  refine ⟨by rw [sz_set]; exact h0, fun k hk => ⟨?_, by rw [World.frozen?_setCell]; exact (h1 k hk).2⟩⟩
  rw [hY k hk]
  by_cases e : k = i
  · subst e
    rw [if_pos rfl, World.cell?_setCell_same _ _ _ (h1 k hk).1]
  · rw [if_neg e, World.cell?_setCell_other _ _ _ _ (by intro q; injection q with q1 q2; exact e q2.symm)]
    exact (h1 k hk).1
theorem RowU.swap {w : World} {g n : Nat} {X : Nat → Nat} (h : RowU w g n X) (i j : Nat) (hi : i < n) (hj : j < n) : RowU ((w.setCell ⟨g, i, none⟩ (.int .u64 (X j : Nat))).setCell ⟨g, j, none⟩ (.int .u64 (X i : Nat))) g n (swp X i j) := by
  refine (h.set (Y := fun k => if k = i then X j else X k) i (X j) hi (fun k _ => rfl)).set j (X i) hj (fun k _ => ?_)
  show (if k = i then X j else if k = j then X i else X k) = if k = j then X i else if k = i then X j else X k
  by_cases c : k = j
  · by_cases d : k = i
    · simp only [if_pos c, if_pos d]; rw [← c, d]
    · simp only [if_pos c, if_neg d]
  · simp only [if_neg c]
/-- A row was sorted from a on, below b. -/
def Sorting (g n a b : Nat) (X : Nat → Nat) (W w' : World) : Prop := ∃ Y, RowU w' g n Y ∧ Sw a b X Y ∧ Srt Y a b ∧ W.grownBy w' (some g)
set_option maxRecDepth 100000 in
set_option maxHeartbeats 2000000 in
theorem ins_c (g n c a b : Nat) (X : Nat → Nat) (w : World) (hR : Hid (RowU w g n X)) (hab : Hid (a ≤ b ∧ b ≤ n)) (hn : Hid (n < 4611686018427387904)) :
    Calls Try.prog 35 #[.slice (some ⟨g, 0, none⟩) n c, .int .i64 a, .int .i64 b] w (fun e w' => e = .returned (.tuple #[]) ∧ Sorting g n a b X w w') := by
  have h1 : (b : Int) < 4611686018427387904 := by have := hab.out; have := hn.out; omega
  have h2 : (a : Int) ≤ b := by have := hab.out; omega
  go_enter Try.func35, Try.ntmps35
  go_wp2_with fail
  go_loopw [6] (fun s6 wr => ∃ (i : Nat) (Y : Nat → Nat), a < i ∧ (i ≤ b ∨ i = a + 1) ∧ s6 = .int .i64 i ∧ Hid (RowU wr g n Y ∧ Sw a b X Y ∧ Srt Y a i ∧ w.grownBy wr (some g))) (fun s6 _ => b - (intOf s6).toNat)
  case atStart => exact ⟨a + 1, X, by omega, Or.inr rfl, by go_num, hR.out, .refl, fun k l _ _ _ => by omega, grown_refl _ _⟩
  case round =>
    obtain ⟨i, Y, hai, hib, rfl, HI⟩ := hrel
    by_cases hlt : i < b
    · have hlt' : (i : Int) < b := by omega
      obtain ⟨wo, rfl⟩ : ∃ wo : World, wo = wr := ⟨_, rfl⟩
      have HAI : Hid (a < i ∧ i < b ∧ b ≤ n) := ⟨hai, hlt, hab.out.2⟩
      go_wp2_with fail
      go_loopw [7] (fun s7 wx => ∃ (j : Nat) (Z : Nat → Nat), a ≤ j ∧ j ≤ i ∧ s7 = .int .i64 j ∧ Hid (RowU wx g n Z ∧ Sw a b X Z ∧ Down Z a i j ∧ w.grownBy wx (some g))) (fun s7 _ => (intOf s7).toNat)
      case atStart => exact ⟨i, Y, by omega, Nat.le_refl _, rfl, HI.out.1, HI.out.2.1, Down.start HI.out.2.2.1, HI.out.2.2.2⟩
      case round =>
        obtain ⟨j, Z, haj, hji, rfl, HJ⟩ := hrel
        by_cases hja : a < j
        · obtain ⟨k, rfl⟩ : ∃ k, j = k + 1 := ⟨j - 1, by omega⟩
          have hja' : (a : Int) < ((k + 1 : Nat) : Int) := by omega
          have hja'' : (a : Int) < (k : Int) + 1 := by omega
          have HK : Hid (a < k + 1 ∧ k + 1 ≤ i) := ⟨hja, hji⟩
          have hkn : (k : Int) + 1 < n := by have := HAI.out; omega
          have hkn2 : (k : Int) < n := by omega
          have c0 := (HJ.out.1.2 k (by have := HAI.out; have := HK.out; omega)).1
          have c1 := (HJ.out.1.2 (k + 1) (by have := HAI.out; have := HK.out; omega)).1
          have f0 := (HJ.out.1.2 k (by have := HAI.out; have := HK.out; omega)).2
          have f1 := (HJ.out.1.2 (k + 1) (by have := HAI.out; have := HK.out; omega)).2
          cases hl : decide (Z (k + 1) < Z k)
          · have HL := Lib.hid hl
            clear hl
            go_wp2_with fail
            go_quiet ((go_at_call 41; exact Calls.quiet_of_same (less_c _ _ false HL _)))
            go_wp2_with fail
            go_roundw
            case rel => exact ⟨i + 1, Z, by have := HAI.out; omega, by have := HAI.out; omega, by go_num, HJ.out.1, HJ.out.2.1, HJ.out.2.2.1.stop HK.out.1 HK.out.2 (by have h := of_decide_eq_false HL.out; show Z (k + 1 - 1) ≤ Z (k + 1); rw [Nat.add_sub_cancel]; omega), grown_drewN' HJ.out.2.2.2 _⟩
            case measure => simp [intOf]; omega
          · have HL := Lib.hid hl
            clear hl
            go_wp2_with fail
            go_quiet ((go_at_call 41; exact Calls.quiet_of_same (less_c _ _ true HL _)))
            go_wp2_with fail
            go_region
            go_wp2_with fail
            go_roundw
            case rel =>
              refine ⟨k, swp Z (k + 1) k, by omega, by omega, rfl, ?_, ?_, ?_, ?_⟩
              · exact (HJ.out.1.swap (k + 1) k (by have := HAI.out; omega) (by have := HAI.out; omega)).drewN 1
              · exact .step Z (k + 1) k HJ.out.2.1 (by omega) (by have := HAI.out; omega) (by omega) (by have := HAI.out; omega)
              · have h := HJ.out.2.2.1.next HK.out.1 HK.out.2 (by have h := of_decide_eq_true HL.out; show Z (k + 1) < Z (k + 1 - 1); rw [Nat.add_sub_cancel]; exact h)
                exact h
              · exact grown_set (grown_set (grown_drewN' HJ.out.2.2.2 _) _ none _ none) _ none _ none
            case measure => simp [intOf]
        · obtain rfl : j = a := by omega
          have hja' : ¬ (j : Int) < (j : Int) := by omega
          go_wp2_with fail
          go_quiet (fail)
          go_wp2_with fail
          go_roundw
          case rel => exact ⟨i + 1, Z, by have := HAI.out; omega, by have := HAI.out; omega, by go_num, HJ.out.1, HJ.out.2.1, HJ.out.2.2.1.low, grown_drewN' HJ.out.2.2.2 _⟩
          case measure => simp [intOf]; omega
    · have hlt' : ¬ (i : Int) < b := by omega
      go_wp2_with fail
      go_end0
      exact ⟨rfl, Y, HI.out.1, HI.out.2.1, fun k l h1 h2 h3 => HI.out.2.2.1 k l h1 h2 (by omega), HI.out.2.2.2⟩
end Go.Proofs.Ytibgdlianedcbaa
