/- Taken from other texts: what is needed of them. -/
import Derived.Test.YteinjalnkhfecaaQM
import Derived.Test.YteinjalnkhfecaaQA
import Derived.Test.YteinjalnkhfecaaQB
import Derived.Test.YteinjalnkhfecaaQE
import Derived.Test.YteinjalnkhfecaaQK3
import Derived.Test.YteinjalnkhfecaaQK8
import Derived.Test.YteinjalnkhfecaaQL
import Derived.Test.YteinjalnkhfecaaQK12
import Derived.Test.YteinjalnkhfecaaQK15
namespace Go.Proofs.Yteinjalnkhfecaa.Q
open Go.ChangeShapes Go.WideShapes Go.ChangeAt Go.RowKit
set_option linter.unusedVariables false
set_option linter.unusedSimpArgs false
theorem ofInt_w (x : Nat) (hx : x < 18446744073709551616) (w : World) : Calls Try.prog 58 #[.int .u64 x] w (RetG x w) := ofInt_c x (Lib.hid hx) w
/-- A number of the reference that is being made, at a block. -/
def AtZ (w : World) (b : Nat) : Prop := b < w.heap.size ∧ w.cell? ⟨b, 0, none⟩ = some (.bool false) ∧ w.cell? ⟨b, 1, none⟩ = some (.slice none 0 0) ∧ w.cell? ⟨b, 2, none⟩ = some (.int .i64 0) ∧ ∀ o, w.frozen? ⟨b, o, none⟩ = false
theorem AtZ.below {W w' : World} {b : Nat} (H : AtZ W b) (hb : Below W.heap.size W w') : AtZ w' b := by
  obtain ⟨h0, h1, h2, h3, h4⟩ := H
  have hc := fun o => hb.cell (p := ⟨b, o, none⟩) h0
  have hf := fun o => hb.frozen (p := ⟨b, o, none⟩) h0
  exact ⟨Nat.lt_of_lt_of_le h0 hb.size, by rw [hc]; exact h1, by rw [hc]; exact h2, by rw [hc]; exact h3, fun o => by rw [hf]; exact h4 o⟩
theorem atZ_new (w : World) (t : TypeId) : AtZ (w.alloc (Obj.cells #[.bool false, .slice none 0 0, .int .i64 0] t)) w.heap.size :=
  ⟨by rw [sz_alloc]; omega, by rw [World.cell?_alloc_at _ _ _ _ rfl]; rfl, by rw [World.cell?_alloc_at _ _ _ _ rfl]; rfl, by rw [World.cell?_alloc_at _ _ _ _ rfl]; rfl, fun o => by rw [World.frozen?_alloc_at _ _ _ _ rfl]⟩
theorem big_set3 {w : World} {g n p M B : Nat} {b : Bool} (h : IsBig w g n p M) (h0 : w.cell? ⟨B, 0, none⟩ = some (.bool b)) (x y z : Value) :
    IsBig (((w.setCell ⟨B, 0, none⟩ x).setCell ⟨B, 1, none⟩ y).setCell ⟨B, 2, none⟩ z) g n p M := by
  refine ⟨⟨by simp only [sz_set]; exact h.1.1, h.1.2.1, fun i hi => ?_, h.1.2.2.2⟩, h.2⟩
  have hne : B ≠ g := by
    intro e
    have := h.1.2.2.1 0 (by omega)
    rw [← e, h0] at this
    cases this
  rw [cell_far hne, cell_far hne, cell_far hne]
  exact h.1.2.2.1 i hi
theorem cells_set3 {w : World} {B : Nat} {a b c : Value} (h0 : w.cell? ⟨B, 0, none⟩ = some a) (h1 : w.cell? ⟨B, 1, none⟩ = some b) (h2 : w.cell? ⟨B, 2, none⟩ = some c) (x y z : Value) :
    (((w.setCell ⟨B, 0, none⟩ x).setCell ⟨B, 1, none⟩ y).setCell ⟨B, 2, none⟩ z).cell? ⟨B, 0, none⟩ = some x ∧ (((w.setCell ⟨B, 0, none⟩ x).setCell ⟨B, 1, none⟩ y).setCell ⟨B, 2, none⟩ z).cell? ⟨B, 1, none⟩ = some y ∧
      (((w.setCell ⟨B, 0, none⟩ x).setCell ⟨B, 1, none⟩ y).setCell ⟨B, 2, none⟩ z).cell? ⟨B, 2, none⟩ = some z := by
  have f1 : ∀ {w : World} {o o' : Nat} {v : Value}, o ≠ o' → (w.setCell ⟨B, o, none⟩ v).cell? ⟨B, o', none⟩ = w.cell? ⟨B, o', none⟩ := fun h => World.cell?_setCell_other _ _ _ _ (by intro e; cases e; exact h rfl)
  refine ⟨?_, ?_, ?_⟩
  · rw [f1 (by decide), f1 (by decide), World.cell?_setCell_same _ _ _ h0]
  · rw [f1 (by decide), World.cell?_setCell_same _ _ _ (by rw [f1 (by decide)]; exact h1)]
  · rw [World.cell?_setCell_same _ _ _ (by rw [f1 (by decide), f1 (by decide)]; exact h2)]
theorem below_set3 {W w : World} (h : Below W.heap.size W w) {v0 v1 v2 : Value} : Below W.heap.size W (((w.setCell ⟨W.heap.size, 0, none⟩ v0).setCell ⟨W.heap.size, 1, none⟩ v1).setCell ⟨W.heap.size, 2, none⟩ v2) :=
  ((h.setCell (Nat.le_refl _) _).setCell (Nat.le_refl _) _).setCell (Nat.le_refl _) _
def RetNum (m : Bool) (M : Nat) (E : Int) (W : World) (e : Ending) (w' : World) : Prop := ∃ g n p : Nat, e = .returned (.agg #[.bool m, .slice (some ⟨g, 0, none⟩) n p, .int .i64 E]) ∧ Hid (IsBig w' g n p M) ∧ Below W.heap.size W w'
set_option maxRecDepth 100000 in
set_option maxHeartbeats 4000000 in
theorem of0_4 (a : Nat) (ha : Hid (a < 18446744073709551616)) (sg : Bool) (HSG : Hid (decide (a / signB false % 2 = 1) = sg)) (w : World) : Calls Try.prog 53 #[.int .i64 4, .int .u64 a] w (RetNum sg (ofM false a) (ofE false a) w) := by
  have HMD : Hid (ofM false a = if a / fracT false % expT false = 0 then a % fracT false else a % fracT false + fracT false) := rfl
  have HED : Hid (ofE false a = (if a / fracT false % expT false = 0 then 1 else ((a / fracT false % expT false : Nat) : Int)) - bias false - fb false) := rfl
  have hm2 : a % fracT false < 8388608 := Nat.mod_lt _ (by decide)
  have hx2 : a / fracT false % expT false < 256 := Nat.mod_lt _ (by decide)
  go_enter Try.func53, Try.ntmps53
  go_wp2_with fail
  refine (shape_4 _).mono ?_; rintro e w1 ⟨rfl, b1⟩
  have Z1 : Hid (AtZ w1 w.heap.size) := (atZ_new w _).below b1
  have c1 : Below w.heap.size w w1 := ((Below.refl w.heap.size w).alloc (Nat.le_refl _) _).trans (b1.mono (by rw [sz_alloc]; omega))
  clear b1
  go_wp2_with fail
  refine (parts_4 a ha _).mono ?_; rintro e w2 ⟨rfl, b2⟩
  have Z2 : Hid (AtZ w2 w.heap.size) := Z1.out.below b2
  have c2 := c1.trans (b2.mono c1.size)
  clear b2 Z1 c1
  generalize a / fracT false % expT false = x at *
  generalize a % fracT false = m at *
  rw [HSG.out]
  by_cases h0 : x = 0
  · have HM : Hid (ofM false a = m) := by show _ = _; rw [HMD.out, if_pos h0]
    have HE : Hid (ofE false a = -149) := by show _ = _; rw [HED.out, if_pos h0]; rfl
    have hx0 : ¬ (0 : Int) < (x : Int) := by omega
    clear h0 HMD HED
    go_upto_region 6 with fail
    have q1 : IntKind.i64.wrap 8 = 8 := by decide
    have q7 : IntKind.i64.wrap (7) = 7 := by decide
    have q128 : IntKind.i64.wrap (128) = 128 := by decide
    have q127 : IntKind.i64.wrap (127) = 127 := by decide
    have q126 : IntKind.i64.wrap (-126) = -126 := by decide
    have q149 : IntKind.i64.wrap (-149) = -149 := by decide
    go_region_with (go_at_call 58; refine (ofInt_w m (by omega) _).mono ?_; rintro e w3 ⟨g, n, p, rfl, hB, b3⟩; have Z3 := AtZ.below (W := w2.drew) Z2.out b3; obtain ⟨-, z0, z1, z2, zf⟩ := Z3)
    go_wp2_with fail
    obtain ⟨k0, k1, k2⟩ := cells_set3 z0 z1 z2 (.bool sg) (.slice (some ⟨g, 0, none⟩) n p) (.int .i64 (-149))
    have HB := Lib.hid (big_set3 hB.out z0 (.bool sg) (.slice (some ⟨g, 0, none⟩) n p) (.int .i64 (-149)))
    have HW := below_set3 (c2.drew.trans (b3.mono c2.size)) (v0 := Value.bool sg) (v1 := Value.slice (some ⟨g, 0, none⟩) n p) (v2 := Value.int .i64 (-149))
    generalize ((w3.setCell ⟨w.heap.size, 0, none⟩ (Value.bool sg)).setCell ⟨w.heap.size, 1, none⟩ (Value.slice (some ⟨g, 0, none⟩) n p)).setCell ⟨w.heap.size, 2, none⟩ (Value.int .i64 (-149)) = w9 at *
    refine bodyPost_ret (v := .agg #[_, _, _]) (by simp [results, Try.results53, go_sem, k0, k1, k2] <;> (first | rfl | (repeat' (first | rfl | apply And.intro)))) rfl ?_
    exact ⟨g, n, p, by rw [HE.out], by rw [HM.out]; exact HB, HW⟩
  · have HM : Hid (ofM false a = m + 8388608) := by show _ = _; rw [HMD.out, if_neg h0]; rfl
    have HE : Hid (ofE false a = (x : Int) - 127 - 23) := by show _ = _; rw [HED.out, if_neg h0]; rfl
    have hx0 : (0 : Int) < (x : Int) := by omega
    have hor : bits .or .u64 (m : Int) 8388608 = ((m + 8388608 : Nat) : Int) := by rw [show (8388608 : Int) = ((8388608 : Nat) : Int) from rfl, bits_or_u64_nat _ _ (by omega) (by decide), Nat.or_comm, or_disj 23 _ _ (by decide) (by omega), Nat.add_comm]
    clear h0 HMD HED
    go_upto_region 6 with fail
    have q1 : IntKind.i64.wrap 8 = 8 := by decide
    have q7 : IntKind.i64.wrap (7) = 7 := by decide
    have q128 : IntKind.i64.wrap (128) = 128 := by decide
    have q127 : IntKind.i64.wrap (127) = 127 := by decide
    have q126 : IntKind.i64.wrap (-126) = -126 := by decide
    have q149 : IntKind.i64.wrap (-149) = -149 := by decide
    have r1 : IntKind.i64.wrap ((x : Int) - 127) = (x : Int) - 127 := IntWalk.i64_in _ (by omega)
    have r2 : IntKind.i64.wrap ((x : Int) - 127 - 23) = (x : Int) - 127 - 23 := IntWalk.i64_in _ (by omega)
    rw [show (m : Int) + 8388608 = ((m + 8388608 : Nat) : Int) by omega]; clear hor
    go_region_with (go_at_call 58; refine (ofInt_w (m + 8388608) (by omega) _).mono ?_; rintro e w3 ⟨g, n, p, rfl, hB, b3⟩; have Z3 := AtZ.below (W := w2.drew) Z2.out b3; obtain ⟨-, z0, z1, z2, zf⟩ := Z3)
    go_wp2_with fail
    obtain ⟨k0, k1, k2⟩ := cells_set3 z0 z1 z2 (.bool sg) (.slice (some ⟨g, 0, none⟩) n p) (.int .i64 (((x : Int) - 127 - 23)))
    have HB := Lib.hid (big_set3 hB.out z0 (.bool sg) (.slice (some ⟨g, 0, none⟩) n p) (.int .i64 (((x : Int) - 127 - 23))))
    have HW := below_set3 (c2.drew.trans (b3.mono c2.size)) (v0 := Value.bool sg) (v1 := Value.slice (some ⟨g, 0, none⟩) n p) (v2 := Value.int .i64 (((x : Int) - 127 - 23)))
    generalize ((w3.setCell ⟨w.heap.size, 0, none⟩ (Value.bool sg)).setCell ⟨w.heap.size, 1, none⟩ (Value.slice (some ⟨g, 0, none⟩) n p)).setCell ⟨w.heap.size, 2, none⟩ (Value.int .i64 (((x : Int) - 127 - 23))) = w9 at *
    refine bodyPost_ret (v := .agg #[_, _, _]) (by simp [results, Try.results53, go_sem, k0, k1, k2] <;> (first | rfl | (repeat' (first | rfl | apply And.intro)))) rfl ?_
    exact ⟨g, n, p, by rw [HE.out], by rw [HM.out]; exact HB, HW⟩
set_option maxRecDepth 100000 in
set_option maxHeartbeats 4000000 in
theorem of0_8 (a : Nat) (ha : Hid (a < 18446744073709551616)) (sg : Bool) (HSG : Hid (decide (a / signB true % 2 = 1) = sg)) (w : World) : Calls Try.prog 53 #[.int .i64 8, .int .u64 a] w (RetNum sg (ofM true a) (ofE true a) w) := by
  have HMD : Hid (ofM true a = if a / fracT true % expT true = 0 then a % fracT true else a % fracT true + fracT true) := rfl
  have HED : Hid (ofE true a = (if a / fracT true % expT true = 0 then 1 else ((a / fracT true % expT true : Nat) : Int)) - bias true - fb true) := rfl
  have hm2 : a % fracT true < 4503599627370496 := Nat.mod_lt _ (by decide)
  have hx2 : a / fracT true % expT true < 2048 := Nat.mod_lt _ (by decide)
  go_enter Try.func53, Try.ntmps53
  go_wp2_with fail
  refine (shape_8 _).mono ?_; rintro e w1 ⟨rfl, b1⟩
  have Z1 : Hid (AtZ w1 w.heap.size) := (atZ_new w _).below b1
  have c1 : Below w.heap.size w w1 := ((Below.refl w.heap.size w).alloc (Nat.le_refl _) _).trans (b1.mono (by rw [sz_alloc]; omega))
  clear b1
  go_wp2_with fail
  refine (parts_8 a ha _).mono ?_; rintro e w2 ⟨rfl, b2⟩
  have Z2 : Hid (AtZ w2 w.heap.size) := Z1.out.below b2
  have c2 := c1.trans (b2.mono c1.size)
  clear b2 Z1 c1
  generalize a / fracT true % expT true = x at *
  generalize a % fracT true = m at *
  rw [HSG.out]
  by_cases h0 : x = 0
  · have HM : Hid (ofM true a = m) := by show _ = _; rw [HMD.out, if_pos h0]
    have HE : Hid (ofE true a = -1074) := by show _ = _; rw [HED.out, if_pos h0]; rfl
    have hx0 : ¬ (0 : Int) < (x : Int) := by omega
    clear h0 HMD HED
    go_upto_region 6 with fail
    have q1 : IntKind.i64.wrap 11 = 11 := by decide
    have q10 : IntKind.i64.wrap (10) = 10 := by decide
    have q1024 : IntKind.i64.wrap (1024) = 1024 := by decide
    have q1023 : IntKind.i64.wrap (1023) = 1023 := by decide
    have q1022 : IntKind.i64.wrap (-1022) = -1022 := by decide
    have q1074 : IntKind.i64.wrap (-1074) = -1074 := by decide
    go_region_with (go_at_call 58; refine (ofInt_w m (by omega) _).mono ?_; rintro e w3 ⟨g, n, p, rfl, hB, b3⟩; have Z3 := AtZ.below (W := w2.drew) Z2.out b3; obtain ⟨-, z0, z1, z2, zf⟩ := Z3)
    go_wp2_with fail
    obtain ⟨k0, k1, k2⟩ := cells_set3 z0 z1 z2 (.bool sg) (.slice (some ⟨g, 0, none⟩) n p) (.int .i64 (-1074))
    have HB := Lib.hid (big_set3 hB.out z0 (.bool sg) (.slice (some ⟨g, 0, none⟩) n p) (.int .i64 (-1074)))
    have HW := below_set3 (c2.drew.trans (b3.mono c2.size)) (v0 := Value.bool sg) (v1 := Value.slice (some ⟨g, 0, none⟩) n p) (v2 := Value.int .i64 (-1074))
    generalize ((w3.setCell ⟨w.heap.size, 0, none⟩ (Value.bool sg)).setCell ⟨w.heap.size, 1, none⟩ (Value.slice (some ⟨g, 0, none⟩) n p)).setCell ⟨w.heap.size, 2, none⟩ (Value.int .i64 (-1074)) = w9 at *
    refine bodyPost_ret (v := .agg #[_, _, _]) (by simp [results, Try.results53, go_sem, k0, k1, k2] <;> (first | rfl | (repeat' (first | rfl | apply And.intro)))) rfl ?_
    exact ⟨g, n, p, by rw [HE.out], by rw [HM.out]; exact HB, HW⟩
  · have HM : Hid (ofM true a = m + 4503599627370496) := by show _ = _; rw [HMD.out, if_neg h0]; rfl
    have HE : Hid (ofE true a = (x : Int) - 1023 - 52) := by show _ = _; rw [HED.out, if_neg h0]; rfl
    have hx0 : (0 : Int) < (x : Int) := by omega
    have hor : bits .or .u64 (m : Int) 4503599627370496 = ((m + 4503599627370496 : Nat) : Int) := by rw [show (4503599627370496 : Int) = ((4503599627370496 : Nat) : Int) from rfl, bits_or_u64_nat _ _ (by omega) (by decide), Nat.or_comm, or_disj 52 _ _ (by decide) (by omega), Nat.add_comm]
    clear h0 HMD HED
    go_upto_region 6 with fail
    have q1 : IntKind.i64.wrap 11 = 11 := by decide
    have q10 : IntKind.i64.wrap (10) = 10 := by decide
    have q1024 : IntKind.i64.wrap (1024) = 1024 := by decide
    have q1023 : IntKind.i64.wrap (1023) = 1023 := by decide
    have q1022 : IntKind.i64.wrap (-1022) = -1022 := by decide
    have q1074 : IntKind.i64.wrap (-1074) = -1074 := by decide
    have r1 : IntKind.i64.wrap ((x : Int) - 1023) = (x : Int) - 1023 := IntWalk.i64_in _ (by omega)
    have r2 : IntKind.i64.wrap ((x : Int) - 1023 - 52) = (x : Int) - 1023 - 52 := IntWalk.i64_in _ (by omega)
    rw [show (m : Int) + 4503599627370496 = ((m + 4503599627370496 : Nat) : Int) by omega]; clear hor
    go_region_with (go_at_call 58; refine (ofInt_w (m + 4503599627370496) (by omega) _).mono ?_; rintro e w3 ⟨g, n, p, rfl, hB, b3⟩; have Z3 := AtZ.below (W := w2.drew) Z2.out b3; obtain ⟨-, z0, z1, z2, zf⟩ := Z3)
    go_wp2_with fail
    obtain ⟨k0, k1, k2⟩ := cells_set3 z0 z1 z2 (.bool sg) (.slice (some ⟨g, 0, none⟩) n p) (.int .i64 (((x : Int) - 1023 - 52)))
    have HB := Lib.hid (big_set3 hB.out z0 (.bool sg) (.slice (some ⟨g, 0, none⟩) n p) (.int .i64 (((x : Int) - 1023 - 52))))
    have HW := below_set3 (c2.drew.trans (b3.mono c2.size)) (v0 := Value.bool sg) (v1 := Value.slice (some ⟨g, 0, none⟩) n p) (v2 := Value.int .i64 (((x : Int) - 1023 - 52)))
    generalize ((w3.setCell ⟨w.heap.size, 0, none⟩ (Value.bool sg)).setCell ⟨w.heap.size, 1, none⟩ (Value.slice (some ⟨g, 0, none⟩) n p)).setCell ⟨w.heap.size, 2, none⟩ (Value.int .i64 (((x : Int) - 1023 - 52))) = w9 at *
    refine bodyPost_ret (v := .agg #[_, _, _]) (by simp [results, Try.results53, go_sem, k0, k1, k2] <;> (first | rfl | (repeat' (first | rfl | apply And.intro)))) rfl ?_
    exact ⟨g, n, p, by rw [HE.out], by rw [HM.out]; exact HB, HW⟩
theorem of_s (sz : Int) (d : Bool) (hs : Hid (Sz sz d)) (a : Nat) (ha : Hid (a < 18446744073709551616)) (w : World) : Calls Try.prog 53 #[.int .i64 sz, .int .u64 a] w (RetNum (decide (a / signB d % 2 = 1)) (ofM d a) (ofE d a) w) := by
  have h := hs.out
  cases d
  · have e : sz = 4 := h
    rw [e]; exact of0_4 a ha _ (Lib.hid rfl) w
  · have e : sz = 8 := h
    rw [e]; exact of0_8 a ha _ (Lib.hid rfl) w
end Go.Proofs.Yteinjalnkhfecaa.Q
