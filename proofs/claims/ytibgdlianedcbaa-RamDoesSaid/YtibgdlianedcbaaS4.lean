/- partitionEqual of numbers. -/
import Derived.Test.YtibgdlianedcbaaS3
namespace Go.Proofs.Ytibgdlianedcbaa
open Go.Maps Go.WideMaps Go.ChangeShapes Go.WideShapes Go.ChangeAt Go.RowKit
set_option linter.unusedVariables false
set_option linter.unusedSimpArgs false
/-- The walk of a partition by equals. -/
def PT (v : Nat) (Y : Nat → Nat) (a b i j : Nat) : Prop := a < i ∧ i ≤ j + 1 ∧ j < b ∧ Y a = v ∧ (∀ k, a < k → k < i → Y k ≤ v) ∧ ∀ k, j < k → k < b → v < Y k
def PE (X : Nat → Nat) (g n a b p : Nat) (w wr : World) (i j : Nat) (Y : Nat → Nat) : Prop := RowU wr g n Y ∧ Sw a b X Y ∧ PT (X p) Y a b i j ∧ w.grownBy wr (some g)
theorem PE.drewN {X Y : Nat → Nat} {g n a b p i j : Nat} {w wr : World} (h : PE X g n a b p w wr i j Y) (k : Nat) : PE X g n a b p w (wr.drewN k) i j Y := ⟨h.1, h.2.1, h.2.2.1, grown_drewN' h.2.2.2 k⟩
theorem PE.right {X Y : Nat → Nat} {g n a b p i j : Nat} {w wr : World} (h : PE X g n a b p w wr i j Y) (h1 : i ≤ j) (h2 : Y i ≤ Y a) : PE X g n a b p w wr (i + 1) j Y :=
  ⟨h.1, h.2.1, ⟨by have := h.2.2.1.1; omega, by omega, h.2.2.1.2.2.1, h.2.2.1.2.2.2.1, fun k k1 k2 => by
    by_cases e : k = i
    · rw [e, ← h.2.2.1.2.2.2.1]; exact h2
    · exact h.2.2.1.2.2.2.2.1 k k1 (by omega), h.2.2.1.2.2.2.2.2⟩, h.2.2.2⟩
theorem PE.left {X Y : Nat → Nat} {g n a b p i j : Nat} {w wr : World} (h : PE X g n a b p w wr i (j + 1) Y) (h1 : i ≤ j + 1) (h2 : Y a < Y (j + 1)) : PE X g n a b p w wr i j Y :=
  ⟨h.1, h.2.1, ⟨h.2.2.1.1, by omega, by have := h.2.2.1.2.2.1; omega, h.2.2.1.2.2.2.1, h.2.2.1.2.2.2.2.1, fun k k1 k2 => by
    by_cases e : k = j + 1
    · rw [e, ← h.2.2.1.2.2.2.1]; exact h2
    · exact h.2.2.1.2.2.2.2.2 k (by omega) k2⟩, h.2.2.2⟩
theorem PE.cross {X Y : Nat → Nat} {g n a b p i j : Nat} {w wr wz : World} (h : PE X g n a b p w wr i (j + 1) Y) (h0 : i ≤ j + 1) (h1 : Y a < Y i) (h2 : Y (j + 1) ≤ Y a) (hz : RowU wz g n (swp Y i (j + 1))) (hg : w.grownBy wz (some g)) : PE X g n a b p w wz (i + 1) j (swp Y i (j + 1)) := by
  have q1 := h.2.2.1.1
  have q2 := h.2.2.1.2.2.1
  have q4 := h.2.2.1.2.2.2.1
  have q3 : i ≠ j + 1 := fun e => by rw [e] at h1; omega
  refine ⟨hz, .step Y i (j + 1) h.2.1 (by omega) (by omega) (by omega) (by omega), ⟨by omega, by omega, by omega, by rw [swp_no (k := a) (by omega) (by omega)]; exact q4, fun k k1 k2 => ?_, fun k k1 k2 => ?_⟩, hg⟩
  · by_cases e : k = i
    · rw [e, swp_at, ← q4]; exact h2
    · rw [swp_no e (by omega)]; exact h.2.2.1.2.2.2.2.1 k k1 (by omega)
  · by_cases e : k = j + 1
    · rw [e, swp_at2, ← q4]; exact h1
    · rw [swp_no (by omega) e]; exact h.2.2.1.2.2.2.2.2 k (by omega) k2
/-- What a partition by equals leaves. -/
def PartedE (X : Nat → Nat) (g n a b p m : Nat) (w w' : World) : Prop := ∃ Y, RowU w' g n Y ∧ Sw a b X Y ∧ a < m ∧ m ≤ b ∧ (∀ k, a ≤ k → k < m → Y k ≤ X p) ∧ (∀ k, m ≤ k → k < b → X p < Y k) ∧ w.grownBy w' (some g)
theorem PE.fin {X Y : Nat → Nat} {g n a b p j : Nat} {w wr : World} (h : PE X g n a b p w wr (j + 1) j Y) : PartedE X g n a b p (j + 1) w wr :=
  ⟨Y, h.1, h.2.1, h.2.2.1.1, h.2.2.1.2.2.1, fun k k1 k2 => by
    by_cases e : k = a
    · rw [e, h.2.2.1.2.2.2.1]; exact Nat.le_refl _
    · exact h.2.2.1.2.2.2.2.1 k (by omega) k2, fun k k1 k2 => h.2.2.1.2.2.2.2.2 k (by omega) k2, h.2.2.2⟩
set_option maxRecDepth 100000 in
set_option maxHeartbeats 8000000 in
theorem parte_c (g n c0 a b p : Nat) (X : Nat → Nat) (w : World) (hR : Hid (RowU w g n X)) (hb : Hid (a < b ∧ b ≤ n ∧ n < 1152921504606846976 ∧ a ≤ p ∧ p < b)) :
    Calls Try.prog 42 #[.slice (some ⟨g, 0, none⟩) n c0, .int .i64 a, .int .i64 b, .int .i64 p] w (fun e w' => ∃ (m : Nat), e = .returned (.int .i64 m) ∧ Hid (PartedE X g n a b p m w w')) := by
  have n60 : (n : Int) < 1152921504606846976 := by have := hb.out; omega
  have bn : (b : Int) ≤ n := by have := hb.out; omega
  have an : (a : Int) < n := by have := hb.out; omega
  have aN : a < n := by have := hb.out; omega
  have pn : (p : Int) < n := by have := hb.out; omega
  have b1 : (1 : Int) ≤ b := by have := hb.out; omega
  have q0 := hR.out.cell a (by have := hb.out; omega)
  have q1 := hR.out.cell p (by have := hb.out; omega)
  have z0 := hR.out.free a (by have := hb.out; omega)
  have z1 := hR.out.free p (by have := hb.out; omega)
  obtain ⟨v2, hv2⟩ := cell?_setCell_some (w := w) (p := ⟨g, a, none⟩) (x := .int .u64 (X p : Nat)) (q := ⟨g, p, none⟩) q1
  have hv4 : (w.drew.setCell ⟨g, a, none⟩ (.int .u64 (X p : Nat))).cell? ⟨g, p, none⟩ = some v2 := hv2
  go_enter Try.func42, Try.ntmps42
  go_wp2_with fail
  go_region
  obtain ⟨j0, hj0⟩ : ∃ j0, j0 = b - 1 := ⟨_, rfl⟩
  have ej0 : (b : Int) - 1 = (j0 : Int) := by omega
  have HJ0 := Lib.hid hj0
  have jn : (j0 : Int) < n := by omega
  have HX : PE X g n a b p w ((w.setCell ⟨g, a, none⟩ (.int .u64 (X p : Nat))).setCell ⟨g, p, none⟩ (.int .u64 (X a : Nat))).drew (a + 1) j0 (swp X a p) := by
    refine ⟨(hR.out.swap a p (by have := hb.out; omega) (by have := hb.out; omega)).drewN 1, .step X a p .refl (Nat.le_refl _) hb.out.1 hb.out.2.2.2.1 hb.out.2.2.2.2, ⟨by omega, by have := HJ0.out; have := hb.out; omega, by have := HJ0.out; have := hb.out; omega, swp_at, fun k k1 k2 => by omega, fun k k1 k2 => by have := HJ0.out; omega⟩, ?_⟩
    exact grown_set (grown_set (grown_drewN' (grown_refl _ _) _) _ none _ none) _ none _ none
  have hab1 : a + 1 ≤ b := by have := hb.out; omega
  have j0N : j0 < n := by omega
  clear q0 q1 z0 z1 hv2 hv4 v2 pn hj0
  go_wp2_with fail
  go_loopg [9, 10] b (fun g_ s10 s11 wr => ∃ (i j : Nat) (Y : Nat → Nat), s10 = .int .i64 i ∧ s11 = .int .i64 j ∧ i ≤ b ∧ j < n ∧ b ≤ i + g_ ∧ Hid (PE X g n a b p w wr i j Y))
  case atStart => exact ⟨a + 1, j0, swp X a p, by go_num, rfl, hab1, j0N, by omega, HX⟩
  case round =>
    clear HX ej0 HJ0 jn j0N hab1
    obtain ⟨i0, j0, Y, rfl, rfl, hib0, j0n, hg0, HI0⟩ := hrel
    have jn : (j0 : Int) < n := by omega
    go_upto_block 2 with fail
    go_cut [9] from 29 to 82 (fun s10 wx => ∃ (i : Nat) (Y : Nat → Nat), s10 = .int .i64 i ∧ i0 ≤ i ∧ Hid (PE X g n a b p w wx i j0 Y ∧ (j0 < i ∨ Y a < Y i)))
    case first =>
      go_wp2_with fail
      go_loopw [9] (fun s10 wr => ∃ (i : Nat) (Y : Nat → Nat), s10 = .int .i64 i ∧ i ≤ b ∧ i0 ≤ i ∧ Hid (PE X g n a b p w wr i j0 Y)) (fun s10 _ => b - (intOf s10).toNat)
      case atStart =>
        exact ⟨i0, Y, rfl, hib0, Nat.le_refl _, HI0.out⟩
      case round =>
        obtain ⟨i, Y, rfl, hib, hlo, HI⟩ := hrel
        by_cases hij : i ≤ j0
        · have hij' : (i : Int) ≤ j0 := by omega
          have HK := Lib.hid hij
          have iN : i < n := by have := HI.out.2.2.1.2.2.1; have := hb.out; omega
          have iNI : (i : Int) < n := by omega
          have ca := HI.out.1.cell a aN
          have ci := HI.out.1.cell i iN
          cases hl : decide (Y a < Y i)
          · have HL := Lib.hid hl
            clear hl hij
            go_wp2_with fail
            go_quiet ((go_at_call 41; exact Calls.quiet_of_same (less_c _ _ false HL _)))
            go_wp2_with fail
            go_roundw
            case rel => exact ⟨i + 1, Y, by go_num, by have := HI.out.2.2.1.2.2.1; have := HK.out; omega, by omega, (HI.out.drewN _).right HK.out (by have := of_decide_eq_false HL.out; omega)⟩
            case measure => have := HI.out.2.2.1.2.2.1; have := HK.out; simp [intOf]; omega
          · have HL := Lib.hid hl
            clear hl hij
            go_wp2_with fail
            go_quiet ((go_at_call 41; exact Calls.quiet_of_same (less_c _ _ true HL _)))
            go_wp2_with fail
            go_meet
            case rel => exact ⟨i, Y, rfl, hlo, HI.out.drewN _, Or.inr (of_decide_eq_true HL.out)⟩
        · have hij' : ¬ (i : Int) ≤ j0 := by omega
          have HK := Lib.hid hij
          go_wp2_with fail
          go_quiet (fail)
          go_wp2_with fail
          go_meet
          case rel => exact ⟨i, Y, rfl, hlo, HI.out.drewN _, Or.inl (by have := HK.out; omega)⟩
    case rest =>
      clear HI0
      obtain ⟨i, Y, rfl, hlo, HI⟩ := hcut
      go_upto_block 4 with fail
      go_cut [10] from 29 to 82 (fun s11 wx => ∃ (j : Nat) (Y : Nat → Nat), s11 = .int .i64 j ∧ j < n ∧ Hid (PE X g n a b p w wx i j Y ∧ (j < i ∨ Y a < Y i) ∧ (j < i ∨ Y j ≤ Y a)))
      case first =>
        go_wp2_with fail
        go_loopw [10] (fun s11 wr => ∃ (j : Nat) (Y : Nat → Nat), s11 = .int .i64 j ∧ j < n ∧ Hid (PE X g n a b p w wr i j Y ∧ (j < i ∨ Y a < Y i))) (fun s11 _ => (intOf s11).toNat)
        case atStart => exact ⟨j0, Y, rfl, by omega, HI.out⟩
        case round =>
          clear HI
          obtain ⟨j, Y, rfl, hjb, HI⟩ := hrel
          by_cases hij : i ≤ j
          · have hij' : (i : Int) ≤ j := by omega
            have HK := Lib.hid hij
            have jNI : (j : Int) < n := by omega
            obtain ⟨k, hk⟩ : ∃ k, k = j - 1 := ⟨_, rfl⟩
            have i1 := HI.out.1.2.2.1.1
            have ek : (j : Int) - 1 = (k : Int) := by omega
            have HE : Hid (j = k + 1) := by show _ = _; omega
            have ca := HI.out.1.1.cell a aN
            have cj := HI.out.1.1.cell j hjb
            clear hk i1
            cases hl : decide (Y a < Y j)
            · have HL := Lib.hid hl
              clear hl hij
              go_wp2_with fail
              go_quiet ((go_at_call 41; exact Calls.quiet_of_same (less_c _ _ false HL _)))
              go_wp2_with fail
              go_meet
              case rel => exact ⟨j, Y, rfl, by omega, HI.out.1.drewN _, HI.out.2, Or.inr (by have := of_decide_eq_false HL.out; omega)⟩
            · have HL := Lib.hid hl
              clear hl hij
              go_wp2_with fail
              go_quiet ((go_at_call 41; exact Calls.quiet_of_same (less_c _ _ true HL _)))
              go_wp2_with fail
              go_roundw
              case rel => exact ⟨k, Y, rfl, by have := HK.out; omega, by have := HE.out; subst this; exact (HI.out.1.drewN _).left HK.out (by have := of_decide_eq_true HL.out; omega), HI.out.2.imp (fun h => by have := HE.out; omega) id⟩
              case measure => have := HE.out; simp [intOf]; omega
          · have hij' : ¬ (i : Int) ≤ j := by omega
            have HK := Lib.hid hij
            go_wp2_with fail
            go_quiet (fail)
            go_wp2_with fail
            go_meet
            case rel => exact ⟨j, Y, rfl, by omega, HI.out.1.drewN _, HI.out.2, Or.inl (by have := HK.out; omega)⟩
      case rest =>
        clear HI
        obtain ⟨j, Y, rfl, jN, HI⟩ := hcut
        by_cases hij : i ≤ j
        · have hij' : ¬ (j : Int) < i := by omega
          have HK := Lib.hid hij
          obtain ⟨k, hk⟩ : ∃ k, k = j - 1 := ⟨_, rfl⟩
          have i1 := HI.out.1.2.2.1.1
          have ek : (j : Int) - 1 = (k : Int) := by omega
          have HE : Hid (j = k + 1) := by show _ = _; omega
          have iN : i < n := by omega
          clear hk i1
          have cx := HI.out.1.1.cell i iN
          have cy := HI.out.1.1.cell j jN
          have zx := HI.out.1.1.free i iN
          have zy := HI.out.1.1.free j jN
          have iNI : (i : Int) < n := by omega
          have jNI : (j : Int) < n := by omega
          obtain ⟨v2, hv2⟩ := cell?_setCell_some (w := wc) (p := ⟨g, i, none⟩) (x := .int .u64 (Y j : Nat)) (q := ⟨g, j, none⟩) cy
          have hv4 : (wc.drew.setCell ⟨g, i, none⟩ (.int .u64 (Y j : Nat))).cell? ⟨g, j, none⟩ = some v2 := hv2
          clear hij
          go_wp2_with fail
          go_region
          have HX : PE X g n a b p w (((wc.setCell ⟨g, i, none⟩ (.int .u64 (Y j : Nat))).setCell ⟨g, j, none⟩ (.int .u64 (Y i : Nat))).drew) (i + 1) k (swp Y i j) := by have := HE.out; subst this; exact HI.out.1.cross HK.out (HI.out.2.1.resolve_left (by have := HK.out; omega)) (HI.out.2.2.resolve_left (by have := HK.out; omega)) ((HI.out.1.1.swap i (k + 1) iN (by omega)).drewN 1) (grown_set (grown_set (grown_drewN' HI.out.1.2.2.2 _) _ none _ none) _ none _ none)
          have i1b : i + 1 ≤ b := by have := HK.out; have := HI.out.1.2.2.1.2.2.1; omega
          have kN : k < n := by omega
          clear cx cy zx zy hv2 hv4 HI HK
          go_wp2_with fail
          go_roundg (b - (i + 1))
          case measure => omega
          case rel => exact ⟨i + 1, k, swp Y i j, by go_num, rfl, i1b, kN, by omega, HX⟩
        · have hij' : (j : Int) < i := by omega
          have HE : Hid (i = j + 1) := by have := HI.out.1.2.2.1.2.1; show _ = _; omega
          clear hij
          go_wp2_with fail
          have e := HE.out
          subst e
          exact bodyPost_ret (v := .int .i64 ((j + 1 : Nat) : Int)) (by simp [results, Try.results42, go_sem] <;> (first | rfl | (repeat' (first | rfl | apply And.intro)))) rfl ⟨j + 1, rfl, HI.out.1.fin⟩
end Go.Proofs.Ytibgdlianedcbaa
