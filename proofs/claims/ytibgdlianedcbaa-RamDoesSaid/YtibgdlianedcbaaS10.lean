/- The breaking of patterns: the walk. -/
import Derived.Test.YtibgdlianedcbaaS9
namespace Go.Proofs.Ytibgdlianedcbaa
open Go.Maps Go.WideMaps Go.ChangeShapes Go.WideShapes Go.ChangeAt Go.RowKit
set_option linter.unusedVariables false
set_option linter.unusedSimpArgs false
set_option maxRecDepth 100000 in
set_option maxHeartbeats 8000000 in
theorem break_c (g n c0 a b : Nat) (X : Nat → Nat) (w : World) (hR : Hid (RowU w g n X)) (hb : Hid (a + 12 < b ∧ b ≤ n ∧ n < 1152921504606846976)) :
    Calls Try.prog 37 #[.slice (some ⟨g, 0, none⟩) n c0, .int .i64 a, .int .i64 b] w (fun e w' => e = .returned (.tuple #[]) ∧ ∃ Y, Hid (Mixed X g n a b w w' Y)) := by
  obtain ⟨L, hL⟩ : ∃ L, L = b - a := ⟨_, rfl⟩
  have eL : (b : Int) - (a : Int) = (L : Int) := by have := hb.out; omega
  have HL : Hid (a + L = b ∧ 12 < L) := by have := hb.out; show _ ∧ _; omega
  obtain ⟨Q, hQ⟩ : ∃ Q, Q = L / 4 := ⟨_, rfl⟩
  have eQ : (L : Int) / 4 = (Q : Int) := by omega
  have eQ' : (L : Int).tdiv 4 = (Q : Int) := by rw [Int.tdiv_eq_ediv_of_nonneg (by omega)]; exact eQ
  obtain ⟨Q2, hQ2⟩ : ∃ Q2, Q2 = Q * 2 := ⟨_, rfl⟩
  have eQ2 : (Q : Int) * 2 = (Q2 : Int) := by omega
  obtain ⟨j, hj⟩ : ∃ j, j = a + Q2 := ⟨_, rfl⟩
  have ej : (a : Int) + (Q2 : Int) = (j : Int) := by omega
  obtain ⟨k, hk⟩ : ∃ k, k = j - 1 := ⟨_, rfl⟩
  have ek : (j : Int) - 1 = (k : Int) := by have := HL.out; omega
  obtain ⟨l, hl⟩ : ∃ l, l = j + 1 := ⟨_, rfl⟩
  have el : (j : Int) + 1 = (l : Int) := by omega
  have HB : Hid (a ≤ k ∧ k ≤ l ∧ l < b) := by have := HL.out; show _ ∧ _; omega
  have nI : (n : Int) < 1152921504606846976 := by have := hb.out; omega
  have bn : (b : Int) ≤ n := by have := hb.out; omega
  have an : (a : Int) < n := by have := hb.out; omega
  have Ln : (L : Int) ≤ n := by have := hb.out; omega
  have Qn : (Q : Int) ≤ n := by omega
  have Q2n : (Q2 : Int) ≤ n := by omega
  have j_n : (j : Int) < n := by have := HB.out; omega
  have k_n : (k : Int) < n := by have := HB.out; omega
  have l_n : (l : Int) < n := by have := HB.out; omega
  have L8 : decide ((8 : Int) ≤ L) = true := decide_eq_true (by have := HL.out; omega)
  clear hL hQ hQ2 hj hk hl
  go_enter Try.func37, Try.ntmps37
  go_wp2_with fail
  refine (np_c L _ (by have := HL.out; have := hb.out; show _ ∧ _; omega)).mono ?_; rintro e w1 ⟨M, rfl, hM, h1⟩
  subst h1
  obtain ⟨M1, hM1⟩ : ∃ M1, M1 = M - 1 := ⟨_, rfl⟩
  have eM : (M : Int) - 1 = (M1 : Int) := by have := hM.out; omega
  have HM1 : Hid (M1 < 2 * L) := by have := hM.out; show _ < _; omega
  have Mn : (M : Int) < 2305843009213693952 := by have := hM.out; omega
  have M1n : (M1 : Int) < 2305843009213693952 := by omega
  clear hM1
  go_wp2_with fail
  go_loopw [9] (fun s9 wr => ∃ (d : Nat) (Y : Nat → Nat) (x : Nat), s9 = .int .i64 d ∧ Hid (k ≤ d) ∧ Hid (MixW X g n a b w.heap.size w wr Y x)) (fun s9 _ => l + 1 - (intOf s9).toNat)
  case atStart =>
    refine ⟨k, X, L, rfl, Nat.le_refl _, ⟨?_, .refl, ?_⟩, hR.out.1, Nat.le_refl _, ?_, ?_, by omega⟩
    · exact hR.out.below ((Below.refl _ _).alloc (Nat.le_refl _) _)
    · exact grown_alloc (grown_refl _ _) _
    · rw [World.cell?_alloc_at _ _ _ _ rfl]; rfl
    · rw [World.frozen?_alloc_at _ _ _ _ rfl]
  case round =>
    obtain ⟨d, Y, x, rfl, HD, HI⟩ := hrel
    by_cases hdl : d ≤ l
    · have hdl' : (d : Int) ≤ l := by omega
      have HX1 := Lib.hid hdl
      have hc := HI.out.2.2.2.1
      have hz := HI.out.2.2.2.2.1
      have hx := HI.out.2.2.2.2.2
      clear hdl
      go_wp2_with fail
      refine (next_c w.heap.size x wr hc hz hx).mono ?_; rintro e w2 ⟨y, rfl, hy, hq, hg⟩
      have HM := Lib.hid (HI.out.next hy.out hq.out hg.out)
      clear hc hz hx hq hg HI
      obtain ⟨o, ho⟩ : ∃ o, o = y &&& M1 := ⟨_, rfl⟩
      have e1 : bits .and .u64 (y : Int) (M1 : Int) = (o : Int) := by rw [ho]; exact u64_and_nat y M1 (by have := hy.out; omega) (by omega)
      have HO1 : Hid (o < 2 * L) := by have h1 : o ≤ M1 := by rw [ho]; exact Nat.and_le_right
                                       have := HM1.out; show _ < _; omega
      have o_n : (o : Int) < 2305843009213693952 := by have := HO1.out; omega
      clear ho
      have yN : (y : Int) < 18446744073709551616 := hy.out
      by_cases hoL : L ≤ o
      · have hoL' : (L : Int) ≤ o := by omega
        obtain ⟨O, hO⟩ : ∃ O, O = o - L := ⟨_, rfl⟩
        have eO : (o : Int) - (L : Int) = (O : Int) := by omega
        have HO : Hid (O < L) := by have := HO1.out; show _ < _; omega
        clear hoL hO
        obtain ⟨t, ht⟩ : ∃ t, t = a + O := ⟨_, rfl⟩
        have et : (a : Int) + (O : Int) = (t : Int) := by omega
        have HT : Hid (a ≤ t ∧ t < b) := by have := HO.out; have := HL.out; show _ ∧ _; omega
        have HID : Hid (a ≤ d ∧ d < b) := by have := HD.out; have := HB.out; have := HX1.out; show _ ∧ _; omega
        have tN : t < n := by have := HT.out; have := hb.out; omega
        have dN : d < n := by have := HID.out; have := hb.out; omega
        have tNI : (t : Int) < n := by omega
        have dNI : (d : Int) < n := by omega
        have wt : IntKind.i64.wrap (t : Int) = (t : Int) := IntWalk.i64_in _ (by omega)
        have cx := HM.out.1.1.cell d dN
        have cy := HM.out.1.1.cell t tN
        have zx := HM.out.1.1.free d dN
        have zy := HM.out.1.1.free t tN
        obtain ⟨v2, hv2⟩ := cell?_setCell_some (w := w2) (p := ⟨g, d, none⟩) (x := .int .u64 (Y t : Nat)) (q := ⟨g, t, none⟩) cy
        have hv4 : (w2.drew.setCell ⟨g, d, none⟩ (.int .u64 (Y t : Nat))).cell? ⟨g, t, none⟩ = some v2 := hv2
        clear ht
        go_wp2_with fail
        go_region
        have HN := HM.out.swap d t HID.out.1 HID.out.2 HT.out.1 HT.out.2 hb.out.2.1
        go_wp2_with fail
        go_roundw
        case rel => exact ⟨d + 1, swp Y d t, y, by go_num, by have := HD.out; show _ ≤ _; omega, HN⟩
        case measure => have := HX1.out; simp [intOf]; omega
      · have hoL' : (o : Int) < L := by omega
        have hoL2 : decide (L ≤ o) = false := decide_eq_false hoL
        have HO : Hid (o < L) := by show _ < _; omega
        clear hoL
        obtain ⟨t, ht⟩ : ∃ t, t = a + o := ⟨_, rfl⟩
        have et : (a : Int) + (o : Int) = (t : Int) := by omega
        have HT : Hid (a ≤ t ∧ t < b) := by have := HO.out; have := HL.out; show _ ∧ _; omega
        have HID : Hid (a ≤ d ∧ d < b) := by have := HD.out; have := HB.out; have := HX1.out; show _ ∧ _; omega
        have tN : t < n := by have := HT.out; have := hb.out; omega
        have dN : d < n := by have := HID.out; have := hb.out; omega
        have tNI : (t : Int) < n := by omega
        have dNI : (d : Int) < n := by omega
        have wt : IntKind.i64.wrap (t : Int) = (t : Int) := IntWalk.i64_in _ (by omega)
        have cx := HM.out.1.1.cell d dN
        have cy := HM.out.1.1.cell t tN
        have zx := HM.out.1.1.free d dN
        have zy := HM.out.1.1.free t tN
        obtain ⟨v2, hv2⟩ := cell?_setCell_some (w := w2) (p := ⟨g, d, none⟩) (x := .int .u64 (Y t : Nat)) (q := ⟨g, t, none⟩) cy
        have hv4 : (w2.drew.setCell ⟨g, d, none⟩ (.int .u64 (Y t : Nat))).cell? ⟨g, t, none⟩ = some v2 := hv2
        clear ht
        go_wp2_with fail
        go_region
        have HN := HM.out.swap d t HID.out.1 HID.out.2 HT.out.1 HT.out.2 hb.out.2.1
        go_wp2_with fail
        go_roundw
        case rel => exact ⟨d + 1, swp Y d t, y, by go_num, by have := HD.out; show _ ≤ _; omega, HN⟩
        case measure => have := HX1.out; simp [intOf]; omega
    · have hdl' : ¬ (d : Int) ≤ l := by omega
      go_wp2_with fail
      go_end0
      exact ⟨rfl, Y, HI.out.1⟩
end Go.Proofs.Ytibgdlianedcbaa
