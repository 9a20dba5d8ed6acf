/- partition of numbers. -/
import Derived.Test.YtibgdlianedcbaaS2
import Derived.Deep.Cut
import Derived.Deep.CutRange
import Derived.Deep.CutBlock
namespace Go.Proofs.Ytibgdlianedcbaa
open Go.Maps Go.WideMaps Go.ChangeShapes Go.WideShapes Go.ChangeAt Go.RowKit
set_option linter.unusedVariables false
set_option linter.unusedSimpArgs false
/-- The walk of a partition: what lies left of i is less than the pivot, what lies right of j isn't. -/
def PS (Y : Nat → Nat) (a b i j : Nat) : Prop := a < i ∧ i ≤ j + 1 ∧ j < b ∧ (∀ k, a < k → k < i → Y k < Y a) ∧ ∀ k, j < k → k < b → Y a ≤ Y k
def PI (X : Nat → Nat) (g n a b : Nat) (w wr : World) (i j : Nat) (Y : Nat → Nat) : Prop := RowU wr g n Y ∧ Sw a b X Y ∧ PS Y a b i j ∧ w.grownBy wr (some g)
theorem PI.drewN {X Y : Nat → Nat} {g n a b i j : Nat} {w wr : World} (h : PI X g n a b w wr i j Y) (k : Nat) : PI X g n a b w (wr.drewN k) i j Y := ⟨h.1, h.2.1, h.2.2.1, grown_drewN' h.2.2.2 k⟩
theorem PI.right {X Y : Nat → Nat} {g n a b i j : Nat} {w wr : World} (h : PI X g n a b w wr i j Y) (h1 : i ≤ j) (h2 : Y i < Y a) : PI X g n a b w wr (i + 1) j Y :=
  ⟨h.1, h.2.1, ⟨by have := h.2.2.1.1; omega, by omega, h.2.2.1.2.2.1, fun k k1 k2 => by
    by_cases e : k = i
    · rw [e]; exact h2
    · exact h.2.2.1.2.2.2.1 k k1 (by omega), h.2.2.1.2.2.2.2⟩, h.2.2.2⟩
theorem PI.left {X Y : Nat → Nat} {g n a b i j : Nat} {w wr : World} (h : PI X g n a b w wr i (j + 1) Y) (h1 : i ≤ j + 1) (h2 : Y a ≤ Y (j + 1)) : PI X g n a b w wr i j Y :=
  ⟨h.1, h.2.1, ⟨h.2.2.1.1, by omega, by have := h.2.2.1.2.2.1; omega, h.2.2.1.2.2.2.1, fun k k1 k2 => by
    by_cases e : k = j + 1
    · rw [e]; exact h2
    · exact h.2.2.1.2.2.2.2 k (by omega) k2⟩, h.2.2.2⟩
theorem swp_at {X : Nat → Nat} {i j : Nat} : swp X i j i = X j := by unfold swp; rw [if_pos rfl]
theorem swp_at2 {X : Nat → Nat} {i j : Nat} : swp X i j j = X i := by
  unfold swp
  by_cases e : j = i
  · rw [if_pos e, e]
  · rw [if_neg e, if_pos rfl]
theorem swp_no {X : Nat → Nat} {i j k : Nat} (h1 : k ≠ i) (h2 : k ≠ j) : swp X i j k = X k := by unfold swp; rw [if_neg h1, if_neg h2]
theorem PI.cross {X Y : Nat → Nat} {g n a b i j : Nat} {w wr wz : World} (h : PI X g n a b w wr i (j + 1) Y) (h0 : i ≤ j + 1) (h1 : Y a ≤ Y i) (h2 : Y (j + 1) < Y a) (hz : RowU wz g n (swp Y i (j + 1))) (hg : w.grownBy wz (some g)) : PI X g n a b w wz (i + 1) j (swp Y i (j + 1)) := by
  have q1 := h.2.2.1.1
  have q2 := h.2.2.1.2.2.1
  have q3 : i ≠ j + 1 := fun e => by rw [e] at h1; omega
  refine ⟨hz, .step Y i (j + 1) h.2.1 (by omega) (by omega) (by omega) (by omega), ⟨by omega, by omega, by omega, fun k k1 k2 => ?_, fun k k1 k2 => ?_⟩, hg⟩
  · rw [swp_no (k := a) (by omega) (by omega)]
    by_cases e : k = i
    · rw [e, swp_at]; exact h2
    · rw [swp_no e (by omega)]; exact h.2.2.1.2.2.2.1 k k1 (by omega)
  · rw [swp_no (k := a) (by omega) (by omega)]
    by_cases e : k = j + 1
    · rw [e, swp_at2]; exact h1
    · rw [swp_no (by omega) e]; exact h.2.2.1.2.2.2.2 k (by omega) k2
/-- What a partition leaves. -/
def Parted (X : Nat → Nat) (g n a b m : Nat) (w w' : World) : Prop := ∃ Y, RowU w' g n Y ∧ Sw a b X Y ∧ a ≤ m ∧ m < b ∧ (∀ k, a ≤ k → k < m → Y k ≤ Y m) ∧ (∀ k, m < k → k < b → Y m ≤ Y k) ∧ w.grownBy w' (some g)
theorem PI.fin {X Y : Nat → Nat} {g n a b j : Nat} {w wr wz : World} (h : PI X g n a b w wr (j + 1) j Y) (hz : RowU wz g n (swp Y j a)) (hg : w.grownBy wz (some g)) : Parted X g n a b j w wz := by
  have q1 := h.2.2.1.1
  have q2 := h.2.2.1.2.2.1
  refine ⟨swp Y j a, hz, .step Y j a h.2.1 (by omega) (by omega) (by omega) (by omega), by omega, q2, fun k k1 k2 => ?_, fun k k1 k2 => ?_, hg⟩
  · rw [swp_at]
    by_cases e : k = a
    · rw [e, swp_at2]; exact Nat.le_of_lt (h.2.2.1.2.2.2.1 j (by omega) (by omega))
    · rw [swp_no (by omega) e]; exact Nat.le_of_lt (h.2.2.1.2.2.2.1 k (by omega) (by omega))
  · rw [swp_at, swp_no (by omega) (by omega)]; exact h.2.2.1.2.2.2.2 k k1 k2
set_option maxRecDepth 100000 in
set_option maxHeartbeats 8000000 in
theorem part_c (g n c0 a b p : Nat) (X : Nat → Nat) (w : World) (hR : Hid (RowU w g n X)) (hb : Hid (a < b ∧ b ≤ n ∧ n < 1152921504606846976 ∧ a ≤ p ∧ p < b)) :
    Calls Try.prog 43 #[.slice (some ⟨g, 0, none⟩) n c0, .int .i64 a, .int .i64 b, .int .i64 p] w (fun e w' => ∃ (m : Nat) (al : Bool), e = .returned (.tuple #[.int .i64 m, .bool al]) ∧ Hid (Parted X g n a b m w w')) := by
  have n60 : (n : Int) < 1152921504606846976 := by have := hb.out; omega
  have bn : (b : Int) ≤ n := by have := hb.out; omega
  have an : (a : Int) < n := by have := hb.out; omega
  have aN : a < n := by have := hb.out; omega
  have pn : (p : Int) < n := by have := hb.out; omega
  have b1 : (1 : Int) ≤ b := by have := hb.out; omega
  have q0 := hR.out.cell a (by have := hb.out; omega)
  have q1 := hR.out.cell p (by have := hb.out; omega)
  have z0 := hR.out.free a (by have := hb.out; omega)
  have z1 := hR.out.free p (by have := hb.out; omega)
  obtain ⟨v2, hv2⟩ := cell?_setCell_some (w := w) (p := ⟨g, a, none⟩) (x := .int .u64 (X p : Nat)) (q := ⟨g, p, none⟩) q1
  have hv4 : (w.drew.setCell ⟨g, a, none⟩ (.int .u64 (X p : Nat))).cell? ⟨g, p, none⟩ = some v2 := hv2
  go_enter Try.func43, Try.ntmps43
  go_wp2_with fail
  go_region
  go_upto_block 0 with fail
  clear q0 q1 z0 z1 hv2 hv4 v2 pn
  obtain ⟨j0, hj0⟩ : ∃ j0, j0 = b - 1 := ⟨_, rfl⟩
  have ej0 : (b : Int) - 1 = (j0 : Int) := by omega
  have HJ0 := Lib.hid hj0
  have jn : (j0 : Int) < n := by omega
  rw [ej0]
  clear hj0 ej0
  go_cut [10] from 30 to 45 (fun s10 wx => ∃ (i : Nat) (Y : Nat → Nat), s10 = .int .i64 i ∧ a ≤ i ∧ Hid (PI X g n a b w wx i j0 Y ∧ (j0 < i ∨ Y a ≤ Y i)))
  case first =>
    go_wp2_with fail
    go_loopw [10] (fun s10 wr => ∃ (i : Nat) (Y : Nat → Nat), s10 = .int .i64 i ∧ i ≤ b ∧ a ≤ i ∧ Hid (PI X g n a b w wr i j0 Y)) (fun s10 _ => b - (intOf s10).toNat)
    case atStart =>
      refine ⟨a + 1, swp X a p, by go_num, by have := hb.out; omega, by omega, (hR.out.swap a p (by have := hb.out; omega) (by have := hb.out; omega)).drewN 1, .step X a p .refl (Nat.le_refl _) hb.out.1 hb.out.2.2.2.1 hb.out.2.2.2.2, ⟨by omega, by have := HJ0.out; have := hb.out; omega, by have := HJ0.out; have := hb.out; omega, fun k k1 k2 => by omega, fun k k1 k2 => by have := HJ0.out; omega⟩, ?_⟩
      exact grown_set (grown_set (grown_drewN' (grown_refl _ _) _) _ none _ none) _ none _ none
    case round =>
      obtain ⟨i, Y, rfl, hib, hlo, HI⟩ := hrel
      by_cases hij : i ≤ j0
      · have hij' : (i : Int) ≤ j0 := by omega
        have HK := Lib.hid hij
        have iN : i < n := by have := HI.out.2.2.1.2.2.1; have := hb.out; omega
        have iNI : (i : Int) < n := by omega
        have ca := HI.out.1.cell a aN
        have ci := HI.out.1.cell i iN
        cases hl : decide (Y i < Y a)
        · have HL := Lib.hid hl
          clear hl hij
          go_wp2_with fail
          go_quiet ((go_at_call 41; exact Calls.quiet_of_same (less_c _ _ false HL _)))
          go_wp2_with fail
          go_meet
          case rel => exact ⟨i, Y, rfl, hlo, HI.out.drewN _, Or.inr (by have := of_decide_eq_false HL.out; omega)⟩
        · have HL := Lib.hid hl
          clear hl hij
          go_wp2_with fail
          go_quiet ((go_at_call 41; exact Calls.quiet_of_same (less_c _ _ true HL _)))
          go_wp2_with fail
          go_roundw
          case rel => exact ⟨i + 1, Y, by go_num, by have := HI.out.2.2.1.2.2.1; have := HK.out; omega, by omega, (HI.out.drewN _).right HK.out (by have := of_decide_eq_true HL.out; omega)⟩
          case measure => have := HI.out.2.2.1.2.2.1; have := HK.out; simp [intOf]; omega
      · have hij' : ¬ (i : Int) ≤ j0 := by omega
        have HK := Lib.hid hij
        go_wp2_with fail
        go_quiet (fail)
        go_wp2_with fail
        go_meet
        case rel => exact ⟨i, Y, rfl, hlo, HI.out.drewN _, Or.inl (by have := HK.out; omega)⟩
  case rest =>
    obtain ⟨i, Y, rfl, hlo, HI⟩ := hcut
    clear hlo
    go_upto_block 2 with fail
    go_cut [11] from 46 to 62 (fun s11 wx => ∃ (j : Nat) (Y : Nat → Nat), s11 = .int .i64 j ∧ j < n ∧ Hid (PI X g n a b w wx i j Y ∧ (j < i ∨ Y a ≤ Y i) ∧ (j < i ∨ Y j < Y a)))
    case first =>
      go_wp2_with fail
      go_loopw [11] (fun s11 wr => ∃ (j : Nat) (Y : Nat → Nat), s11 = .int .i64 j ∧ j < n ∧ Hid (PI X g n a b w wr i j Y ∧ (j < i ∨ Y a ≤ Y i))) (fun s11 _ => (intOf s11).toNat)
      case atStart => exact ⟨j0, Y, rfl, by omega, HI.out⟩
      case round =>
        clear HI
        obtain ⟨j, Y, rfl, hjb, HI⟩ := hrel
        by_cases hij : i ≤ j
        · have hij' : (i : Int) ≤ j := by omega
          have HK := Lib.hid hij
          have jNI : (j : Int) < n := by omega
          obtain ⟨k, hk⟩ : ∃ k, k = j - 1 := ⟨_, rfl⟩
          have i1 := HI.out.1.2.2.1.1
          have ek : (j : Int) - 1 = (k : Int) := by omega
          have HE : Hid (j = k + 1) := by show _ = _; omega
          have ca := HI.out.1.1.cell a aN
          have cj := HI.out.1.1.cell j hjb
          clear hk i1
          cases hl : decide (Y j < Y a)
          · have HL := Lib.hid hl
            clear hl hij
            go_wp2_with fail
            go_quiet ((go_at_call 41; exact Calls.quiet_of_same (less_c _ _ false HL _)))
            go_wp2_with fail
            go_roundw
            case rel => exact ⟨k, Y, rfl, by have := HK.out; omega, by have := HE.out; subst this; exact (HI.out.1.drewN _).left HK.out (by have := of_decide_eq_false HL.out; omega), HI.out.2.imp (fun h => by have := HE.out; omega) id⟩
            case measure => have := HE.out; simp [intOf]; omega
          · have HL := Lib.hid hl
            clear hl hij
            go_wp2_with fail
            go_quiet ((go_at_call 41; exact Calls.quiet_of_same (less_c _ _ true HL _)))
            go_wp2_with fail
            go_meet
            case rel => exact ⟨j, Y, rfl, by omega, HI.out.1.drewN _, HI.out.2, Or.inr (by have := of_decide_eq_true HL.out; omega)⟩
        · have hij' : ¬ (i : Int) ≤ j := by omega
          have HK := Lib.hid hij
          go_wp2_with fail
          go_quiet (fail)
          go_wp2_with fail
          go_meet
          case rel => exact ⟨j, Y, rfl, by omega, HI.out.1.drewN _, HI.out.2, Or.inl (by have := HK.out; omega)⟩
    case rest =>
      clear HI
      obtain ⟨j, Y, rfl, jN, HI⟩ := hcut
      by_cases hij : i ≤ j
      · have hij' : ¬ (j : Int) < i := by omega
        have HK := Lib.hid hij
        obtain ⟨k, hk⟩ : ∃ k, k = j - 1 := ⟨_, rfl⟩
        have i1 := HI.out.1.2.2.1.1
        have ek : (j : Int) - 1 = (k : Int) := by omega
        have HE : Hid (j = k + 1) := by show _ = _; omega
        have iN : i < n := by omega
        clear hk i1
        have cx := HI.out.1.1.cell i iN
        have cy := HI.out.1.1.cell j jN
        have zx := HI.out.1.1.free i iN
        have zy := HI.out.1.1.free j jN
        have iNI : (i : Int) < n := by omega
        have jNI : (j : Int) < n := by omega
        obtain ⟨v2, hv2⟩ := cell?_setCell_some (w := wc) (p := ⟨g, i, none⟩) (x := .int .u64 (Y j : Nat)) (q := ⟨g, j, none⟩) cy
        have hv4 : (wc.drew.setCell ⟨g, i, none⟩ (.int .u64 (Y j : Nat))).cell? ⟨g, j, none⟩ = some v2 := hv2
        clear hij
        go_wp2_with fail
        go_region
        have HX : PI X g n a b w (((wc.setCell ⟨g, i, none⟩ (.int .u64 (Y j : Nat))).setCell ⟨g, j, none⟩ (.int .u64 (Y i : Nat))).drew) (i + 1) k (swp Y i j) := by have := HE.out; subst this; exact HI.out.1.cross HK.out (HI.out.2.1.resolve_left (by have := HK.out; omega)) (HI.out.2.2.resolve_left (by have := HK.out; omega)) ((HI.out.1.1.swap i (k + 1) iN (by omega)).drewN 1) (grown_set (grown_set (grown_drewN' HI.out.1.2.2.2 _) _ none _ none) _ none _ none)
        have i1b : i + 1 ≤ b := by have := HK.out; have := HI.out.1.2.2.1.2.2.1; omega
        have kN : k < n := by omega
        clear cx cy zx zy hv2 hv4 HI HK
        go_wp2_with fail
        go_loopg [10, 11] b (fun g_ s10 s11 wr => ∃ (i j : Nat) (Y : Nat → Nat), s10 = .int .i64 i ∧ s11 = .int .i64 j ∧ i ≤ b ∧ j < n ∧ b ≤ i + g_ ∧ Hid (PI X g n a b w wr i j Y))
        case atStart => exact ⟨i + 1, k, swp Y i j, by go_num, rfl, i1b, kN, by omega, HX⟩
        case round =>
          clear HX HE ek kN i1b iN iNI jNI jN
          obtain ⟨i0, j0, Y, rfl, rfl, hib0, j0n, hg0, HI0⟩ := hrel
          have jn : (j0 : Int) < n := by omega
          go_upto_block 6 with fail
          go_cut [10] from 99 to 152 (fun s10 wx => ∃ (i : Nat) (Y : Nat → Nat), s10 = .int .i64 i ∧ i0 ≤ i ∧ Hid (PI X g n a b w wx i j0 Y ∧ (j0 < i ∨ Y a ≤ Y i)))
          case first =>
            go_wp2_with fail
            go_loopw [10] (fun s10 wr => ∃ (i : Nat) (Y : Nat → Nat), s10 = .int .i64 i ∧ i ≤ b ∧ i0 ≤ i ∧ Hid (PI X g n a b w wr i j0 Y)) (fun s10 _ => b - (intOf s10).toNat)
            case atStart =>
              exact ⟨i0, Y, rfl, hib0, Nat.le_refl _, HI0.out⟩
            case round =>
              obtain ⟨i, Y, rfl, hib, hlo, HI⟩ := hrel
              by_cases hij : i ≤ j0
              · have hij' : (i : Int) ≤ j0 := by omega
                have HK := Lib.hid hij
                have iN : i < n := by have := HI.out.2.2.1.2.2.1; have := hb.out; omega
                have iNI : (i : Int) < n := by omega
                have ca := HI.out.1.cell a aN
                have ci := HI.out.1.cell i iN
                cases hl : decide (Y i < Y a)
                · have HL := Lib.hid hl
                  clear hl hij
                  go_wp2_with fail
                  go_quiet ((go_at_call 41; exact Calls.quiet_of_same (less_c _ _ false HL _)))
                  go_wp2_with fail
                  go_meet
                  case rel => exact ⟨i, Y, rfl, hlo, HI.out.drewN _, Or.inr (by have := of_decide_eq_false HL.out; omega)⟩
                · have HL := Lib.hid hl
                  clear hl hij
                  go_wp2_with fail
                  go_quiet ((go_at_call 41; exact Calls.quiet_of_same (less_c _ _ true HL _)))
                  go_wp2_with fail
                  go_roundw
                  case rel => exact ⟨i + 1, Y, by go_num, by have := HI.out.2.2.1.2.2.1; have := HK.out; omega, by omega, (HI.out.drewN _).right HK.out (by have := of_decide_eq_true HL.out; omega)⟩
                  case measure => have := HI.out.2.2.1.2.2.1; have := HK.out; simp [intOf]; omega
              · have hij' : ¬ (i : Int) ≤ j0 := by omega
                have HK := Lib.hid hij
                go_wp2_with fail
                go_quiet (fail)
                go_wp2_with fail
                go_meet
                case rel => exact ⟨i, Y, rfl, hlo, HI.out.drewN _, Or.inl (by have := HK.out; omega)⟩
          case rest =>
            clear HI0
            obtain ⟨i, Y, rfl, hlo, HI⟩ := hcut
            go_upto_block 8 with fail
            go_cut [11] from 99 to 152 (fun s11 wx => ∃ (j : Nat) (Y : Nat → Nat), s11 = .int .i64 j ∧ j < n ∧ Hid (PI X g n a b w wx i j Y ∧ (j < i ∨ Y a ≤ Y i) ∧ (j < i ∨ Y j < Y a)))
            case first =>
              go_wp2_with fail
              go_loopw [11] (fun s11 wr => ∃ (j : Nat) (Y : Nat → Nat), s11 = .int .i64 j ∧ j < n ∧ Hid (PI X g n a b w wr i j Y ∧ (j < i ∨ Y a ≤ Y i))) (fun s11 _ => (intOf s11).toNat)
              case atStart => exact ⟨j0, Y, rfl, by omega, HI.out⟩
              case round =>
                clear HI
                obtain ⟨j, Y, rfl, hjb, HI⟩ := hrel
                by_cases hij : i ≤ j
                · have hij' : (i : Int) ≤ j := by omega
                  have HK := Lib.hid hij
                  have jNI : (j : Int) < n := by omega
                  obtain ⟨k, hk⟩ : ∃ k, k = j - 1 := ⟨_, rfl⟩
                  have i1 := HI.out.1.2.2.1.1
                  have ek : (j : Int) - 1 = (k : Int) := by omega
                  have HE : Hid (j = k + 1) := by show _ = _; omega
                  have ca := HI.out.1.1.cell a aN
                  have cj := HI.out.1.1.cell j hjb
                  clear hk i1
                  cases hl : decide (Y j < Y a)
                  · have HL := Lib.hid hl
                    clear hl hij
                    go_wp2_with fail
                    go_quiet ((go_at_call 41; exact Calls.quiet_of_same (less_c _ _ false HL _)))
                    go_wp2_with fail
                    go_roundw
                    case rel => exact ⟨k, Y, rfl, by have := HK.out; omega, by have := HE.out; subst this; exact (HI.out.1.drewN _).left HK.out (by have := of_decide_eq_false HL.out; omega), HI.out.2.imp (fun h => by have := HE.out; omega) id⟩
                    case measure => have := HE.out; simp [intOf]; omega
                  · have HL := Lib.hid hl
                    clear hl hij
                    go_wp2_with fail
                    go_quiet ((go_at_call 41; exact Calls.quiet_of_same (less_c _ _ true HL _)))
                    go_wp2_with fail
                    go_meet
                    case rel => exact ⟨j, Y, rfl, by omega, HI.out.1.drewN _, HI.out.2, Or.inr (by have := of_decide_eq_true HL.out; omega)⟩
                · have hij' : ¬ (i : Int) ≤ j := by omega
                  have HK := Lib.hid hij
                  go_wp2_with fail
                  go_quiet (fail)
                  go_wp2_with fail
                  go_meet
                  case rel => exact ⟨j, Y, rfl, by omega, HI.out.1.drewN _, HI.out.2, Or.inl (by have := HK.out; omega)⟩
            case rest =>
              clear HI
              obtain ⟨j, Y, rfl, jN, HI⟩ := hcut
              by_cases hij : i ≤ j
              · have hij' : ¬ (j : Int) < i := by omega
                have HK := Lib.hid hij
                obtain ⟨k, hk⟩ : ∃ k, k = j - 1 := ⟨_, rfl⟩
                have i1 := HI.out.1.2.2.1.1
                have ek : (j : Int) - 1 = (k : Int) := by omega
                have HE : Hid (j = k + 1) := by show _ = _; omega
                have iN : i < n := by omega
                clear hk i1
                have cx := HI.out.1.1.cell i iN
                have cy := HI.out.1.1.cell j jN
                have zx := HI.out.1.1.free i iN
                have zy := HI.out.1.1.free j jN
                have iNI : (i : Int) < n := by omega
                have jNI : (j : Int) < n := by omega
                obtain ⟨v2, hv2⟩ := cell?_setCell_some (w := wc) (p := ⟨g, i, none⟩) (x := .int .u64 (Y j : Nat)) (q := ⟨g, j, none⟩) cy
                have hv4 : (wc.drew.setCell ⟨g, i, none⟩ (.int .u64 (Y j : Nat))).cell? ⟨g, j, none⟩ = some v2 := hv2
                clear hij
                go_wp2_with fail
                go_region
                have HX : PI X g n a b w (((wc.setCell ⟨g, i, none⟩ (.int .u64 (Y j : Nat))).setCell ⟨g, j, none⟩ (.int .u64 (Y i : Nat))).drew) (i + 1) k (swp Y i j) := by have := HE.out; subst this; exact HI.out.1.cross HK.out (HI.out.2.1.resolve_left (by have := HK.out; omega)) (HI.out.2.2.resolve_left (by have := HK.out; omega)) ((HI.out.1.1.swap i (k + 1) iN (by omega)).drewN 1) (grown_set (grown_set (grown_drewN' HI.out.1.2.2.2 _) _ none _ none) _ none _ none)
                have i1b : i + 1 ≤ b := by have := HK.out; have := HI.out.1.2.2.1.2.2.1; omega
                have kN : k < n := by omega
                clear cx cy zx zy hv2 hv4 HI HK
                go_wp2_with fail
                go_roundg (b - (i + 1))
                case measure => omega
                case rel => exact ⟨i + 1, k, swp Y i j, by go_num, rfl, i1b, kN, by omega, HX⟩
              · have hij' : (j : Int) < i := by omega
                have HE : Hid (i = j + 1) := by have := HI.out.1.2.2.1.2.1; show _ = _; omega
                clear hij
                have cx := HI.out.1.1.cell j jN
                have cy := HI.out.1.1.cell a aN
                have zx := HI.out.1.1.free j jN
                have zy := HI.out.1.1.free a aN
                have jNI : (j : Int) < n := by omega
                have aNI : (a : Int) < n := by omega
                obtain ⟨v2, hv2⟩ := cell?_setCell_some (w := wc) (p := ⟨g, j, none⟩) (x := .int .u64 (Y a : Nat)) (q := ⟨g, a, none⟩) cy
                have hv4 : (wc.drew.setCell ⟨g, j, none⟩ (.int .u64 (Y a : Nat))).cell? ⟨g, a, none⟩ = some v2 := hv2
                go_wp2_with fail
                go_region
                go_wp2_with fail
                have e := HE.out
                subst e
                exact bodyPost_ret (v := .tuple #[.int .i64 j, .bool false]) (by simp [results, Try.results43, go_sem] <;> (first | rfl | (repeat' (first | rfl | apply And.intro)))) rfl ⟨j, false, rfl, HI.out.1.fin ((HI.out.1.1.swap j a jN aN).drewN 1) (grown_set (grown_set (grown_drewN' HI.out.1.2.2.2 _) _ none _ none) _ none _ none)⟩
      · have hij' : (j : Int) < i := by omega
        have HE : Hid (i = j + 1) := by have := HI.out.1.2.2.1.2.1; show _ = _; omega
        clear hij
        have cx := HI.out.1.1.cell j jN
        have cy := HI.out.1.1.cell a aN
        have zx := HI.out.1.1.free j jN
        have zy := HI.out.1.1.free a aN
        have jNI : (j : Int) < n := by omega
        have aNI : (a : Int) < n := by omega
        obtain ⟨v2, hv2⟩ := cell?_setCell_some (w := wc) (p := ⟨g, j, none⟩) (x := .int .u64 (Y a : Nat)) (q := ⟨g, a, none⟩) cy
        have hv4 : (wc.drew.setCell ⟨g, j, none⟩ (.int .u64 (Y a : Nat))).cell? ⟨g, a, none⟩ = some v2 := hv2
        go_wp2_with fail
        go_region
        go_wp2_with fail
        have e := HE.out
        subst e
        exact bodyPost_ret (v := .tuple #[.int .i64 j, .bool true]) (by simp [results, Try.results43, go_sem] <;> (first | rfl | (repeat' (first | rfl | apply And.intro)))) rfl ⟨j, true, rfl, HI.out.1.fin ((HI.out.1.1.swap j a jN aN).drewN 1) (grown_set (grown_set (grown_drewN' HI.out.1.2.2.2 _) _ none _ none) _ none _ none)⟩
end Go.Proofs.Ytibgdlianedcbaa
