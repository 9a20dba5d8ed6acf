/- partialInsertionSort of numbers. -/
import Derived.Test.YtibgdlianedcbaaS5
namespace Go.Proofs.Ytibgdlianedcbaa
open Go.Maps Go.WideMaps Go.ChangeShapes Go.WideShapes Go.ChangeAt Go.RowKit
set_option linter.unusedVariables false
set_option linter.unusedSimpArgs false
theorem srt_swap {Y : Nat → Nat} {a i k l : Nat} (h : Srt Y a i) (hk : i ≤ k) (hl : i ≤ l) : Srt (swp Y k l) a i := by
  intro p q h1 h2 h3
  rw [swp_no (by omega) (by omega), swp_no (by omega) (by omega)]
  exact h p q h1 h2 h3
theorem srt_next {Y : Nat → Nat} {a i : Nat} (h : Srt Y a i) (ha : a < i) (hi : Y (i - 1) ≤ Y i) : Srt Y a (i + 1) := by
  intro p q h1 h2 h3
  by_cases e : q = i
  · rw [e]
    by_cases f : p = i - 1
    · rw [f]; exact hi
    · exact Nat.le_trans (h p (i - 1) h1 (by omega) (by omega)) hi
  · exact h p q h1 h2 (by omega)
theorem Mixed.swap' {X Y : Nat → Nat} {g n a b : Nat} {w wr : World} (h : Mixed X g n a b w wr Y) (i j : Nat) (h1 : a ≤ i) (h2 : i < b) (h3 : a ≤ j) (h4 : j < b) (hb : b ≤ n) : Mixed X g n a b w ((wr.setCell ⟨g, i, none⟩ (.int .u64 (Y j : Nat))).setCell ⟨g, j, none⟩ (.int .u64 (Y i : Nat))) (swp Y i j) :=
  ⟨h.1.swap i j (by omega) (by omega), .step Y i j h.2.1 h1 h2 h3 h4, grown_set (grown_set h.2.2 _ none _ none) _ none _ none⟩
/-- What an insertion sort with a limit answers. -/
def RetIns (X : Nat → Nat) (g n a b : Nat) (w : World) (e : Ending) (w' : World) : Prop := ∃ (t : Bool) (Y : Nat → Nat), e = .returned (.bool t) ∧ Hid (Mixed X g n a b w w' Y ∧ (t = true → Srt Y a b))
theorem Mixed.below {X Y : Nat → Nat} {g n a b : Nat} {w wr : World} (h : Mixed X g n a b w wr Y) (ha : 0 < a) (hl : a = 0 ∨ ∀ k, a ≤ k → k < b → X (a - 1) ≤ X k) : ∀ k, a ≤ k → k < b → Y (a - 1) ≤ Y k := by
  rw [h.2.1.out (a - 1) (Or.inl (by omega))]
  exact h.2.1.all (fun v => X (a - 1) ≤ v) (hl.resolve_left (by omega))
set_option maxRecDepth 100000 in
set_option maxHeartbeats 8000000 in
theorem pins_c (g n c0 a b : Nat) (X : Nat → Nat) (w : World) (hR : Hid (RowU w g n X)) (hb : Hid (a < b ∧ b ≤ n ∧ n < 1152921504606846976)) (hl : Hid (a = 0 ∨ ∀ k, a ≤ k → k < b → X (a - 1) ≤ X k)) :
    Calls Try.prog 40 #[.slice (some ⟨g, 0, none⟩) n c0, .int .i64 a, .int .i64 b] w (RetIns X g n a b w) := by
  have n60 : (n : Int) < 1152921504606846976 := by have := hb.out; omega
  have bn : (b : Int) ≤ n := by have := hb.out; omega
  have an : (a : Int) < n := by have := hb.out; omega
  have b1 : (1 : Int) ≤ b := by have := hb.out; omega
  obtain ⟨L, hL⟩ : ∃ L, L = b - a := ⟨_, rfl⟩
  have eL : (b : Int) - (a : Int) = (L : Int) := by have := hb.out; omega
  clear hL
  go_enter Try.func40, Try.ntmps40
  go_wp2_with fail
  go_loopg [7, 8] 5 (fun g_ s7 s8 wr => ∃ (i c : Nat) (Y : Nat → Nat), s7 = .int .i64 i ∧ s8 = .int .i64 c ∧ c + g_ = 5 ∧ Hid (a < i ∧ i ≤ b ∧ Mixed X g n a b w wr Y ∧ Srt Y a i))
  case atStart => exact ⟨a + 1, 0, X, by go_num, rfl, rfl, by omega, by have := hb.out; omega, ⟨hR.out, .refl, grown_refl _ _⟩, fun k l h1 h2 h3 => by omega⟩
  case round =>
    obtain ⟨i0, c, Y0, rfl, rfl, hc, HI0⟩ := hrel
    cases gk with
    | zero =>
      have hc5 : ¬ (c : Int) < 5 := by omega
      go_wp2_with fail
      exact bodyPost_ret (v := .bool false) (by simp [results, Try.results40, go_sem] <;> (first | rfl | (repeat' (first | rfl | apply And.intro)))) rfl ⟨false, Y0, rfl, HI0.out.2.2.1, fun h => by cases h⟩
    | succ g_ =>
      have hc5 : (c : Int) < 5 := by omega
      go_upto_block 2 with fail
      go_cut [7] from 13 to 132 (fun s7 wx => ∃ (i : Nat) (Y : Nat → Nat), s7 = .int .i64 i ∧ Hid (a < i ∧ i ≤ b ∧ Mixed X g n a b w wx Y ∧ Srt Y a i ∧ (i = b ∨ Y i < Y (i - 1))))
      case first =>
        go_wp2_with fail
        go_loopw [7] (fun s7 wr => ∃ (i : Nat) (Y : Nat → Nat), s7 = .int .i64 i ∧ Hid (a < i ∧ i ≤ b ∧ Mixed X g n a b w wr Y ∧ Srt Y a i)) (fun s7 _ => b - (intOf s7).toNat)
        case atStart => exact ⟨i0, Y0, rfl, HI0.out⟩
        case round =>
          obtain ⟨i, Y, rfl, HI⟩ := hrel
          by_cases hib : i < b
          · have HK := Lib.hid hib
            have i1 := HI.out.1
            obtain ⟨k, rfl⟩ : ∃ k, i = k + 1 := ⟨i - 1, by omega⟩
            have hib1 : ((k + 1 : Nat) : Int) < b := by omega
            have hib2 : (k : Int) + 1 < b := by omega
            have hkn : (k : Int) + 1 < n := by omega
            have hkn2 : (k : Int) < n := by omega
            have c0 := HI.out.2.2.1.1.cell k (by omega)
            have c1 := HI.out.2.2.1.1.cell (k + 1) (by omega)
            clear hib i1
            cases hl : decide (Y (k + 1) < Y k)
            · have HL := Lib.hid hl
              clear hl
              go_wp2_with fail
              go_quiet ((go_at_call 41; exact Calls.quiet_of_same (less_c _ _ false HL _)))
              go_wp2_with fail
              go_roundw
              case rel => exact ⟨k + 1 + 1, Y, by go_num, by have := HI.out.1; omega, HK.out, HI.out.2.2.1.drewN _, srt_next HI.out.2.2.2 HI.out.1 (by have := of_decide_eq_false HL.out; rw [Nat.add_sub_cancel]; omega)⟩
              case measure => have := HK.out; simp [intOf]; omega
            · have HL := Lib.hid hl
              clear hl
              go_wp2_with fail
              go_quiet ((go_at_call 41; exact Calls.quiet_of_same (less_c _ _ true HL _)))
              go_wp2_with fail
              go_meet
              case rel => exact ⟨k + 1, Y, rfl, HI.out.1, HI.out.2.1, HI.out.2.2.1.drewN _, HI.out.2.2.2, Or.inr (by have := of_decide_eq_true HL.out; rw [Nat.add_sub_cancel]; exact this)⟩
          · have HK := Lib.hid hib
            have hib1 : ¬ (i : Int) < b := by omega
            go_wp2_with fail
            go_quiet (fail)
            go_wp2_with fail
            go_meet
            case rel => exact ⟨i, Y, rfl, HI.out.1, HI.out.2.1, HI.out.2.2.1.drewN _, HI.out.2.2.2, Or.inl (by have := HK.out; have := HI.out.2.1; omega)⟩
      case rest =>
        clear HI0
        obtain ⟨i, Y, rfl, HI⟩ := hcut
        by_cases hib : i = b
        · have HK := Lib.hid hib
          have he : ((i : Int) == (b : Int)) = true := by rw [hib]; exact beq_self_eq_true _
          clear hib
          go_wp2_with fail
          exact bodyPost_ret (v := .bool true) (by simp [results, Try.results40, go_sem] <;> (first | rfl | (repeat' (first | rfl | apply And.intro)))) rfl ⟨true, Y, rfl, HI.out.2.2.1, fun _ => by rw [← HK.out]; exact HI.out.2.2.2.1⟩
        · have HK : Hid (a < i ∧ i < b) := by have := HI.out.1; have := HI.out.2.1; show _ ∧ _; omega
          have he : ((i : Int) == (b : Int)) = false := by rw [beq_eq_false_iff_ne]; omega
          clear hib
          by_cases hL5 : L < 50
          · have hL5' : (L : Int) < 50 := by omega
            go_wp2_with fail
            exact bodyPost_ret (v := .bool false) (by simp [results, Try.results40, go_sem] <;> (first | rfl | (repeat' (first | rfl | apply And.intro)))) rfl ⟨false, Y, rfl, HI.out.2.2.1, fun h => by cases h⟩
          · have hL5' : ¬ (L : Int) < 50 := by omega
            obtain ⟨k, hk⟩ : ∃ k, k = i - 1 := ⟨_, rfl⟩
            have HE : Hid (i = k + 1 ∧ a ≤ k ∧ k + 1 < b) := by have := HK.out; show _ ∧ _; omega
            have ek : (i : Int) - 1 = (k : Int) := by have := HE.out; omega
            have wk : IntKind.i64.wrap (k : Int) = (k : Int) := IntWalk.i64_in _ (by have := HE.out; have := hb.out; omega)
            obtain ⟨D, hD⟩ : ∃ D, D = i - a := ⟨_, rfl⟩
            have eD : (i : Int) - (a : Int) = (D : Int) := by have := HK.out; omega
            have HD := Lib.hid hD
            obtain ⟨M, hM⟩ : ∃ M, M = b - i := ⟨_, rfl⟩
            have eM : (b : Int) - (i : Int) = (M : Int) := by have := HK.out; omega
            have HM := Lib.hid hM
            have iN : i < n := by have := HK.out; have := hb.out; omega
            have kN : k < n := by have := HE.out; have := hb.out; omega
            have iNI : (i : Int) < n := by omega
            have kNI : (k : Int) < n := by omega
            have cx := HI.out.2.2.1.1.cell i iN
            have cy := HI.out.2.2.1.1.cell k kN
            have zx := HI.out.2.2.1.1.free i iN
            have zy := HI.out.2.2.1.1.free k kN
            have ik1 : ¬ i = k := by have := HE.out; omega
            have ik2 : ¬ k = i := by have := HE.out; omega
            clear hk hD hM
            go_wp2_with fail
            go_region
            have HX : Hid (Mixed X g n a b w ((wc.setCell ⟨g, i, none⟩ (.int .u64 (Y k : Nat))).setCell ⟨g, k, none⟩ (.int .u64 (Y i : Nat))).drew (swp Y i k) ∧ Srt (swp Y i k) a k) := by
              refine ⟨HI.out.2.2.1.swap i k (by have := HE.out; omega) (by have := HE.out; omega) (by have := HE.out; omega) (by have := HE.out; omega) hb.out.2.1, srt_swap (fun p q h1 h2 h3 => HI.out.2.2.2.1 p q h1 h2 (by have := HE.out; omega)) (by have := HE.out; omega) (Nat.le_refl _)⟩
            clear cx cy zx zy HI ik1 ik2
            go_upto_if 61 with fail
            generalize hT : decide ((2 : Int) ≤ (D : Int)) = t
            have HT := Lib.hid hT
            clear hT
            go_cut [9] from 13 to 132 (fun s9 wx => ∃ (Z : Nat → Nat), Hid (Mixed X g n a b w wx Z ∧ Srt Z a i))
            case first =>
              cases t
              · have HD2 := Lib.hid (of_decide_eq_false HT.out)
                go_wp2_with fail
                go_meet
                case rel => exact ⟨swp Y i k, HX.out.1, fun p q h1 h2 h3 => by have := HD.out; have := HD2.out; have := HK.out; omega⟩
              · clear HT
                go_wp2_with fail
                go_loopw [9] (fun s9 wx => ∃ (j : Nat) (Z : Nat → Nat), s9 = .int .i64 j ∧ Hid (a ≤ j ∧ j ≤ k ∧ Mixed X g n a b w wx Z ∧ Down Z a k j)) (fun s9 _ => (intOf s9).toNat)
                case atStart => exact ⟨k, swp Y i k, rfl, HE.out.2.1, Nat.le_refl _, HX.out.1, Down.start HX.out.2⟩
                case round =>
                  clear HX
                  obtain ⟨j, Z, rfl, HJ⟩ := hrel
                  by_cases hj0 : j = 0
                  · have HJ0 := Lib.hid hj0
                    have hj1 : ¬ (1 : Int) ≤ j := by omega
                    clear hj0
                    go_wp2_with fail
                    go_meet
                    case rel => exact ⟨Z, HJ.out.2.2.1, by
                      have e0 : a = 0 := by have := HJ.out.1; have := HJ0.out; omega
                      have e1 : j = a := by have := HJ0.out; omega
                      rw [HE.out.1]
                      exact Down.low (e1 ▸ HJ.out.2.2.2)⟩
                  · have HJ0 := Lib.hid hj0
                    obtain ⟨m, rfl⟩ : ∃ m, j = m + 1 := ⟨j - 1, by omega⟩
                    have hj1 : (1 : Int) ≤ ((m + 1 : Nat) : Int) := by omega
                    have hj2 : (1 : Int) ≤ (m : Int) + 1 := by omega
                    have hmn : (m : Int) + 1 < n := by have := HJ.out.2.1; omega
                    have hmn2 : (m : Int) < n := by omega
                    have c0 := HJ.out.2.2.1.1.cell m (by omega)
                    have c1 := HJ.out.2.2.1.1.cell (m + 1) (by omega)
                    have f0 := HJ.out.2.2.1.1.free m (by omega)
                    have f1 := HJ.out.2.2.1.1.free (m + 1) (by omega)
                    clear hj0
                    cases hq : decide (Z (m + 1) < Z m)
                    · have HL := Lib.hid hq
                      clear hq
                      go_wp2_with fail
                      go_quiet ((go_at_call 41; exact Calls.quiet_of_same (less_c _ _ false HL _)))
                      go_wp2_with fail
                      go_meet
                      case rel => exact ⟨Z, HJ.out.2.2.1.drewN _, by
                        have h := of_decide_eq_false HL.out
                        rw [HE.out.1]
                        by_cases e : m + 1 = a
                        · exact Down.low (e ▸ HJ.out.2.2.2)
                        · exact Down.stop HJ.out.2.2.2 (by have := HJ.out.1; omega) HJ.out.2.1 (by rw [Nat.add_sub_cancel]; omega)⟩
                    · have HL := Lib.hid hq
                      clear hq
                      have HA : Hid (a < m + 1) := by
                        have h := of_decide_eq_true HL.out
                        show _ < _
                        by_cases e : m + 1 = a
                        · have h2 := HJ.out.2.2.1.below (by omega) hl.out a (Nat.le_refl _) hb.out.1
                          rw [← e, Nat.add_sub_cancel] at h2
                          omega
                        · have := HJ.out.1; omega
                      go_wp2_with fail
                      go_quiet ((go_at_call 41; exact Calls.quiet_of_same (less_c _ _ true HL _)))
                      go_wp2_with fail
                      go_region
                      go_wp2_with fail
                      go_roundw
                      case rel =>
                        refine ⟨m, swp Z (m + 1) m, rfl, by have := HA.out; omega, by have := HJ.out.2.1; omega, ?_, ?_⟩
                        · exact (HJ.out.2.2.1.drewN _).swap' (m + 1) m HJ.out.1 (by have := HJ.out.2.1; have := HE.out; omega) (by have := HA.out; omega) (by have := HJ.out.2.1; have := HE.out; omega) hb.out.2.1
                        · exact HJ.out.2.2.2.next HA.out HJ.out.2.1 (by rw [Nat.add_sub_cancel]; exact of_decide_eq_true HL.out)
                      case measure => simp [intOf]
            case rest =>
              clear HX
              obtain ⟨Z0, HZ⟩ := hcut
              have hc' : c + 1 + g_ = 5 := by omega
              have Hc := Lib.hid hc'
              clear hc' hc
              by_cases hM2 : 2 ≤ M
              · have hM2' : decide ((2 : Int) ≤ M) = true := decide_eq_true (by omega)
                clear hM2
                go_wp2_with fail
                go_loopw [10] (fun s10 wx => ∃ (j : Nat) (Z : Nat → Nat), s10 = .int .i64 j ∧ Hid (i < j ∧ j ≤ b ∧ Mixed X g n a b w wx Z ∧ Srt Z a i)) (fun s10 _ => b - (intOf s10).toNat)
                case atStart => exact ⟨i + 1, Z0, by go_num, by omega, by have := HK.out; omega, HZ.out⟩
                case round =>
                  clear HZ
                  obtain ⟨j, Z, rfl, HJ⟩ := hrel
                  by_cases hjb : j < b
                  · have HJB := Lib.hid hjb
                    obtain ⟨m, rfl⟩ : ∃ m, j = m + 1 := ⟨j - 1, by have := HJ.out.1; omega⟩
                    have hj1 : ((m + 1 : Nat) : Int) < b := by omega
                    have hj2 : (m : Int) + 1 < b := by omega
                    have hmn : (m : Int) + 1 < n := by omega
                    have hmn2 : (m : Int) < n := by omega
                    have c0 := HJ.out.2.2.1.1.cell m (by omega)
                    have c1 := HJ.out.2.2.1.1.cell (m + 1) (by omega)
                    have f0 := HJ.out.2.2.1.1.free m (by omega)
                    have f1 := HJ.out.2.2.1.1.free (m + 1) (by omega)
                    clear hjb
                    cases hq : decide (Z (m + 1) < Z m)
                    · have HL := Lib.hid hq
                      clear hq
                      go_wp2_with fail
                      go_quiet ((go_at_call 41; exact Calls.quiet_of_same (less_c _ _ false HL _)))
                      go_wp2_with fail
                      go_roundg g_
                      case measure => omega
                      case rel => exact ⟨i, c + 1, Z, rfl, by go_num, Hc.out, by have := HK.out; omega, by have := HK.out; omega, HJ.out.2.2.1.drewN _, HJ.out.2.2.2⟩
                    · have HL := Lib.hid hq
                      clear hq
                      go_wp2_with fail
                      go_quiet ((go_at_call 41; exact Calls.quiet_of_same (less_c _ _ true HL _)))
                      go_wp2_with fail
                      go_region
                      go_wp2_with fail
                      go_roundw
                      case rel => exact ⟨m + 1 + 1, swp Z (m + 1) m, by go_num, by have := HJ.out.1; omega, HJB.out, (HJ.out.2.2.1.drewN _).swap' (m + 1) m (by have := HJ.out.1; have := HK.out; omega) HJB.out (by have := HJ.out.1; have := HK.out; omega) (by have := HJB.out; omega) hb.out.2.1, srt_swap HJ.out.2.2.2 (by have := HJ.out.1; omega) (by have := HJ.out.1; omega)⟩
                      case measure => have := HJB.out; simp [intOf]; omega
                  · have HJB := Lib.hid hjb
                    have hj1 : ¬ (j : Int) < b := by omega
                    clear hjb
                    go_wp2_with fail
                    go_roundg g_
                    case measure => omega
                    case rel => exact ⟨i, c + 1, Z, rfl, by go_num, Hc.out, by have := HK.out; omega, by have := HK.out; omega, HJ.out.2.2.1, HJ.out.2.2.2⟩
              · have hM2' : decide ((2 : Int) ≤ M) = false := decide_eq_false (by omega)
                clear hM2
                go_wp2_with fail
                go_roundg g_
                case measure => omega
                case rel => exact ⟨i, c + 1, Z0, rfl, by go_num, Hc.out, by have := HK.out; omega, by have := HK.out; omega, HZ.out.1, HZ.out.2⟩
end Go.Proofs.Ytibgdlianedcbaa
