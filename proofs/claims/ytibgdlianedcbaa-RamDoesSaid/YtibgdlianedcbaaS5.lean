/- reverseRange, partialInsertionSort of numbers. -/
import Derived.Test.YtibgdlianedcbaaS4
namespace Go.Proofs.Ytibgdlianedcbaa
open Go.Maps Go.WideMaps Go.ChangeShapes Go.WideShapes Go.ChangeAt Go.RowKit
set_option linter.unusedVariables false
set_option linter.unusedSimpArgs false
/-- Swapped about. -/
def Mixed (X : Nat → Nat) (g n a b : Nat) (w w' : World) (Y : Nat → Nat) : Prop := RowU w' g n Y ∧ Sw a b X Y ∧ w.grownBy w' (some g)
theorem Mixed.drewN {X Y : Nat → Nat} {g n a b : Nat} {w wr : World} (h : Mixed X g n a b w wr Y) (k : Nat) : Mixed X g n a b w (wr.drewN k) Y := ⟨h.1, h.2.1, grown_drewN' h.2.2 k⟩
theorem Mixed.swap {X Y : Nat → Nat} {g n a b : Nat} {w wr : World} (h : Mixed X g n a b w wr Y) (i j : Nat) (h1 : a ≤ i) (h2 : i < b) (h3 : a ≤ j) (h4 : j < b) (hb : b ≤ n) : Mixed X g n a b w ((wr.setCell ⟨g, i, none⟩ (.int .u64 (Y j : Nat))).setCell ⟨g, j, none⟩ (.int .u64 (Y i : Nat))).drew (swp Y i j) :=
  ⟨(h.1.swap i j (by omega) (by omega)).drewN 1, .step Y i j h.2.1 h1 h2 h3 h4, grown_set (grown_set (grown_drewN' h.2.2 1) _ none _ none) _ none _ none⟩
set_option maxRecDepth 100000 in
set_option maxHeartbeats 4000000 in
theorem rev_c (g n c0 a b : Nat) (X : Nat → Nat) (w : World) (hR : Hid (RowU w g n X)) (hb : Hid (a < b ∧ b ≤ n ∧ n < 1152921504606846976)) :
    Calls Try.prog 39 #[.slice (some ⟨g, 0, none⟩) n c0, .int .i64 a, .int .i64 b] w (fun e w' => e = .returned (.tuple #[]) ∧ ∃ Y, Hid (Mixed X g n a b w w' Y)) := by
  have n60 : (n : Int) < 1152921504606846976 := by have := hb.out; omega
  have bn : (b : Int) ≤ n := by have := hb.out; omega
  have an : (a : Int) < n := by have := hb.out; omega
  have b1 : (1 : Int) ≤ b := by have := hb.out; omega
  obtain ⟨j0, hj0⟩ : ∃ j0, j0 = b - 1 := ⟨_, rfl⟩
  have ej0 : (b : Int) - 1 = (j0 : Int) := by omega
  have HJ : Hid (j0 < b ∧ a ≤ j0) := by have := hb.out; show _ ∧ _; omega
  clear hj0
  go_enter Try.func39, Try.ntmps39
  go_wp2_with fail
  go_loopg [6, 7] b (fun g_ s6 s7 wr => ∃ (i j : Nat) (Y : Nat → Nat), s6 = .int .i64 i ∧ s7 = .int .i64 j ∧ Hid (a ≤ i ∧ i ≤ j + 1 ∧ j < b ∧ b ≤ i + g_) ∧ Hid (Mixed X g n a b w wr Y))
  case atStart => exact ⟨a, j0, X, rfl, rfl, by have := HJ.out; show _ ∧ _; omega, hR.out, .refl, grown_refl _ _⟩
  case round =>
    clear HJ ej0
    obtain ⟨i, j, Y, rfl, rfl, HB, HI⟩ := hrel
    by_cases hij : i < j
    · have hij' : (i : Int) < j := by omega
      obtain ⟨k, hk⟩ : ∃ k, k = j - 1 := ⟨_, rfl⟩
      have ek : (j : Int) - 1 = (k : Int) := by omega
      have HE : Hid (j = k + 1 ∧ i < j) := by show _ ∧ _; omega
      have iN : i < n := by have := HB.out; have := hb.out; omega
      have jN : j < n := by have := HB.out; have := hb.out; omega
      have iNI : (i : Int) < n := by omega
      have jNI : (j : Int) < n := by omega
      have cx := HI.out.1.cell i iN
      have cy := HI.out.1.cell j jN
      have zx := HI.out.1.free i iN
      have zy := HI.out.1.free j jN
      obtain ⟨v2, hv2⟩ := cell?_setCell_some (w := wr) (p := ⟨g, i, none⟩) (x := .int .u64 (Y j : Nat)) (q := ⟨g, j, none⟩) cy
      have hv4 : (wr.drew.setCell ⟨g, i, none⟩ (.int .u64 (Y j : Nat))).cell? ⟨g, j, none⟩ = some v2 := hv2
      clear hk hij
      go_wp2_with fail
      go_region
      have HX := HI.out.swap i j HB.out.1 (by have := HB.out; have := HE.out; omega) (by have := HB.out; have := HE.out; omega) HB.out.2.2.1 hb.out.2.1
      go_wp2_with fail
      go_roundg (b - (i + 1))
      case measure => have := HB.out; have := HE.out; omega
      case rel => exact ⟨i + 1, k, swp Y i j, by go_num, rfl, by have := HB.out; have := HE.out; show _ ∧ _; omega, HX⟩
    · have hij' : ¬ (i : Int) < j := by omega
      go_wp2_with fail
      go_end0
      exact ⟨rfl, Y, HI⟩
end Go.Proofs.Ytibgdlianedcbaa
