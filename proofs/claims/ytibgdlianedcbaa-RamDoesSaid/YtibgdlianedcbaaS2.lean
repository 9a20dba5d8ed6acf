/- heapSort of numbers. -/
import Derived.Test.YtibgdlianedcbaaS1
namespace Go.Proofs.Ytibgdlianedcbaa
open Go.Maps Go.WideMaps Go.ChangeShapes Go.WideShapes Go.ChangeAt Go.RowKit
set_option linter.unusedVariables false
set_option linter.unusedSimpArgs false
/-- One less, as the counter holds it. -/
def dn : Nat → Value
  | 0 => .int .i64 (-1)
  | j + 1 => .int .i64 (j : Nat)
theorem dn_pred (j : Nat) : Value.int .i64 ((j : Int) - 1) = dn j := by
  cases j with
  | zero => rfl
  | succ j => show _ = Value.int .i64 (j : Int); congr 1; omega
theorem heap_swap {X : Nat → Nat} {f j : Nat} (h : Heap X f 0 (j + 1)) : Heap (swp X f (f + j)) f (0 + 1) j := by
  intro i c h1 h2 h3
  unfold swp
  rw [if_neg (by omega), if_neg (by omega), if_neg (by omega), if_neg (by omega)]
  exact h i c (by omega) h2 (by omega)
set_option maxRecDepth 100000 in
set_option maxHeartbeats 4000000 in
theorem heap_c (g n c0 a b : Nat) (X : Nat → Nat) (w : World) (hR : Hid (RowU w g n X)) (hb : Hid (a < b ∧ b ≤ n ∧ n < 1152921504606846976)) :
    Calls Try.prog 36 #[.slice (some ⟨g, 0, none⟩) n c0, .int .i64 a, .int .i64 b] w (fun e w' => e = .returned (.tuple #[]) ∧ Sorting g n a b X w w') := by
  obtain ⟨H, hH⟩ : ∃ H, H = b - a := ⟨_, rfl⟩
  have eH : (b : Int) - (a : Int) = (H : Int) := by have := hb.out; omega
  have HB : Hid (a + H = b ∧ 0 < H) := by have := hb.out; show _ ∧ _; omega
  obtain ⟨q, hq⟩ : ∃ q, q = (H - 1) / 2 := ⟨_, rfl⟩
  have eq : ((H : Int) - 1) / 2 = (q : Int) := by have := HB.out; omega
  have eq' : ((H : Int) - 1).tdiv 2 = (q : Int) := by rw [Int.tdiv_eq_ediv_of_nonneg (by have := HB.out; omega)]; exact eq
  have HQ : Hid (H ≤ 2 * (q + 1) + 1 ∧ q < n) := by have := HB.out; have := hb.out; show _ ∧ _; omega
  have n60 : (n : Int) < 1152921504606846976 := by have := hb.out; omega
  have Hn : (H : Int) ≤ n := by have := HB.out; have := hb.out; omega
  have an : (a : Int) < n := by have := hb.out; omega
  have H1 : (1 : Int) ≤ H := by have := HB.out; omega
  clear hH hq
  go_enter Try.func36, Try.ntmps36
  go_wp2_with fail
  go_loopw [9] (fun s9 wr => ∃ (k : Nat) (Y : Nat → Nat), s9 = dn k ∧ Hid (k ≤ n ∧ RowU wr g n Y ∧ Sw a (a + H) X Y ∧ Heap Y a k H ∧ w.grownBy wr (some g))) (fun s9 _ => ((intOf s9) + 1).toNat)
  case atStart => exact ⟨q + 1, X, rfl, by have := HQ.out; omega, hR.out, .refl, heap_none _ _ _ _ HQ.out.1, grown_refl _ _⟩
  case round =>
    obtain ⟨k, Y, rfl, HI⟩ := hrel
    cases k with
    | zero =>
      show Code.wp _ _ _ _ _
      unfold dn
      go_wp2_with fail
      go_loopw [10] (fun s10 wx => ∃ (k : Nat) (Z : Nat → Nat), s10 = dn k ∧ Hid (k ≤ H ∧ RowU wx g n Z ∧ Sw a (a + H) X Z ∧ Heap Z a 0 k ∧ Tail Z a k H ∧ w.grownBy wx (some g))) (fun s10 _ => ((intOf s10) + 1).toNat)
      case atStart => exact ⟨H, Y, dn_pred H, Nat.le_refl _, HI.out.2.1, HI.out.2.2.1, HI.out.2.2.2.1, tail_none _ _ _, HI.out.2.2.2.2⟩
      case round =>
        clear HI
        obtain ⟨k, Z, rfl, HJ⟩ := hrel
        cases k with
        | zero =>
          unfold dn
          go_wp2_with fail
          go_end0
          exact ⟨rfl, Z, HJ.out.2.1, by rw [← HB.out.1]; exact HJ.out.2.2.1, by rw [← HB.out.1]; exact tail_all HJ.out.2.2.2.2.1, HJ.out.2.2.2.2.2⟩
        | succ j =>
          unfold dn
          have jn : (j : Int) ≤ n := by have := HJ.out.1; have := HB.out; have := hb.out; omega
          have ajn : (a : Int) + (j : Int) < n := by have := HJ.out.1; have := HB.out; have := hb.out; omega
          have q0 := HJ.out.2.1.cell a (by have := hb.out; omega)
          have z0 := HJ.out.2.1.free a (by have := hb.out; omega)
          have q1 := HJ.out.2.1.cell (a + j) (by have := HJ.out.1; have := HB.out; have := hb.out; omega)
          have z1 := HJ.out.2.1.free (a + j) (by have := HJ.out.1; have := HB.out; have := hb.out; omega)
          obtain ⟨v2, hv2⟩ := cell?_setCell_some (w := wr) (p := ⟨g, a, none⟩) (x := .int .u64 (Z (a + j) : Nat)) (q := ⟨g, a + j, none⟩) q1
          have hv3 : ∀ k, ((wr.drewN k).setCell ⟨g, a, none⟩ (.int .u64 (Z (a + j) : Nat))).cell? ⟨g, a + j, none⟩ = some v2 := fun k => hv2
          have hv4 : (wr.drew.setCell ⟨g, a, none⟩ (.int .u64 (Z (a + j) : Nat))).cell? ⟨g, a + j, none⟩ = some v2 := hv2
          have waj : IntKind.i64.wrap ((a : Int) + (j : Int)) = (a : Int) + (j : Int) := IntWalk.i64_in _ (by omega)
          have taj : ((a : Int) + (j : Int)).toNat = a + j := by omega
          have naj : (0 : Int) ≤ (a : Int) + (j : Int) := by omega
          have ajN : a + j < n := by omega
          go_wp2_with fail
          go_region
          go_wp2_with fail
          have hAB : a < n ∧ a + j < n := by have := HJ.out.1; have := HB.out; have := hb.out; omega
          have HSW := HJ.out.2.1.swap a (a + j) hAB.1 hAB.2
          refine (sift_c g n c0 0 j a (swp Z a (a + j)) _ (by exact HSW) (Lib.hid ⟨by omega, by omega, hb.out.2.2⟩) (Lib.hid (heap_swap HJ.out.2.2.2.1))).mono ?_; rintro e w1 ⟨rfl, V, y1, y2, y3, y4⟩
          have HV : Hid (j ≤ H ∧ RowU w1 g n V ∧ Sw a (a + H) X V ∧ Heap V a 0 j ∧ Tail V a j H ∧ w.grownBy w1 (some g)) :=
            ⟨by have := HJ.out.1; omega, y1, (Sw.step Z a (a + j) HJ.out.2.2.1 (Nat.le_refl _) (by have := HB.out; omega) (by omega) (by have := HJ.out.1; omega)).trans (y2.mono (Nat.le_refl _) (by have := HJ.out.1; omega)), y3, tail_step (by have := HJ.out.1; omega) HJ.out.2.2.2.1 HJ.out.2.2.2.2.1 y2, grown_trans (by exact grown_set (grown_set (grown_drewN' HJ.out.2.2.2.2.2 _) _ none _ none) _ none _ none) y4⟩
          clear y1 y2 y3 y4 HSW hAB
          go_wp2_with fail
          go_roundw
          case rel => exact ⟨j, V, dn_pred j, HV⟩
          case measure => show ((j : Int) - 1 + 1).toNat < ((j : Int) + 1).toNat; omega
    | succ j =>
      unfold dn
      have jn : (j : Int) ≤ n := by have := HI.out.1; omega
      go_wp2_with fail
      refine (sift_c g n c0 j H a Y wr (Lib.hid HI.out.2.1) (Lib.hid ⟨by have := HB.out; have := hb.out; omega, by have := HI.out.1; omega, hb.out.2.2⟩) (Lib.hid HI.out.2.2.2.1)).mono ?_; rintro e w1 ⟨rfl, Z, z1, z2, z3, z4⟩
      have HZ : Hid (j ≤ n ∧ RowU w1 g n Z ∧ Sw a (a + H) X Z ∧ Heap Z a j H ∧ w.grownBy w1 (some g)) := ⟨by have := HI.out.1; omega, z1, HI.out.2.2.1.trans z2, z3, grown_trans HI.out.2.2.2.2 z4⟩
      clear z1 z2 z3 z4
      go_wp2_with fail
      go_roundw
      case rel => exact ⟨j, Z, dn_pred j, HZ⟩
      case measure => show ((j : Int) - 1 + 1).toNat < ((j : Int) + 1).toNat; omega
end Go.Proofs.Ytibgdlianedcbaa
