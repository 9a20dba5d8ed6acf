/- The reference's sum. -/
import Derived.Test.YthjdeopfbjmmeaaK16
namespace Go.Proofs.Ythjdeopfbjmmeaa
open Go.ChangeShapes Go.WideShapes Go.ChangeAt Go.RowKit
set_option linter.unusedVariables false
set_option linter.unusedSimpArgs false
def RetR (r : Nat × Int) (W : World) (e : Ending) (w' : World) : Prop := e = .returned (.tuple #[.int .u64 r.1, .int .i64 r.2]) ∧ Below W.heap.size W w'
theorem sub_pos (x y : Int) : ∃ s : Nat, x - min x y = (s : Int) ∧ s = (x - min x y).toNat := ⟨(x - min x y).toNat, by omega, rfl⟩
theorem pow_lt {A s k : Nat} (h : A < 2 ^ k) : A * 2 ^ s < 2 ^ (k + s) := by rw [Nat.pow_add]; exact Nat.mul_lt_mul_of_pos_right h (Nat.two_pow_pos s)
theorem digits_of {A k n : Nat} (h : A < 2 ^ k) (hk : k ≤ 32 * n) : shd A n = 0 := shd_eq_zero.2 (Nat.lt_of_lt_of_le h (Nat.pow_le_pow_right (by decide) hk))
/-- A sum that is being made, at a block: its sign, its digits, its exponent. -/
def AtS (w : World) (b : Nat) (m : Bool) (v : Value) (E : Int) : Prop := b < w.heap.size ∧ w.cell? ⟨b, 0, none⟩ = some (.bool m) ∧ w.cell? ⟨b, 1, none⟩ = some v ∧ w.cell? ⟨b, 2, none⟩ = some (.int .i64 E) ∧ ∀ o, w.frozen? ⟨b, o, none⟩ = false
theorem AtS.below {W w' : World} {b : Nat} {m : Bool} {v : Value} {E : Int} (H : AtS W b m v E) (hb : Below W.heap.size W w') : AtS w' b m v E := by
  obtain ⟨h0, h1, h2, h3, h4⟩ := H
  have hc := fun o => hb.cell (p := ⟨b, o, none⟩) h0
  have hf := fun o => hb.frozen (p := ⟨b, o, none⟩) h0
  exact ⟨Nat.lt_of_lt_of_le h0 hb.size, by rw [hc]; exact h1, by rw [hc]; exact h2, by rw [hc]; exact h3, fun o => by rw [hf]; exact h4 o⟩
theorem AtN.set {w : World} {b : Nat} {m : Bool} {g n p : Nat} {E : Int} (H : AtN w b m g n p E) {B o : Nat} (hb : B ≠ b) (v : Value) : AtN (w.setCell ⟨B, o, none⟩ v) b m g n p E := by
  obtain ⟨h0, h1, h2, h3⟩ := H
  exact ⟨by rw [sz_set]; exact h0, by rw [cell_far hb]; exact h1, by rw [cell_far hb]; exact h2, by rw [cell_far hb]; exact h3⟩
theorem big_setS {w : World} {g n p M B o : Nat} {b : Bool} (h : IsBig w g n p M) (h0 : w.cell? ⟨B, 0, none⟩ = some (.bool b)) (v : Value) : IsBig (w.setCell ⟨B, o, none⟩ v) g n p M := by
  refine ⟨⟨by rw [sz_set]; exact h.1.1, h.1.2.1, fun i hi => ?_, h.1.2.2.2⟩, h.2⟩
  have hne : B ≠ g := by
    intro e
    have := h.1.2.2.1 0 (by omega)
    rw [← e, h0] at this
    cases this
  rw [cell_far hne]
  exact h.1.2.2.1 i hi
theorem AtS.set1 {w : World} {b : Nat} {m : Bool} {u : Value} {E : Int} (H : AtS w b m u E) (v : Value) : AtS (w.setCell ⟨b, 1, none⟩ v) b m v E := by
  obtain ⟨h0, h1, h2, h3, h4⟩ := H
  have f1 : ∀ {o o' : Nat}, o ≠ o' → (w.setCell ⟨b, o, none⟩ v).cell? ⟨b, o', none⟩ = w.cell? ⟨b, o', none⟩ := fun h => World.cell?_setCell_other _ _ _ _ (by intro e; cases e; exact h rfl)
  exact ⟨by rw [sz_set]; exact h0, by rw [f1 (by decide)]; exact h1, World.cell?_setCell_same _ _ _ h2, by rw [f1 (by decide)]; exact h3, fun o => by rw [World.frozen?_setCell]; exact h4 o⟩
theorem AtS.set0 {w : World} {b : Nat} {m : Bool} {u : Value} {E : Int} (H : AtS w b m u E) (k : Bool) : AtS (w.setCell ⟨b, 0, none⟩ (.bool k)) b k u E := by
  obtain ⟨h0, h1, h2, h3, h4⟩ := H
  have f1 : ∀ {o o' : Nat} {v : Value}, o ≠ o' → (w.setCell ⟨b, o, none⟩ v).cell? ⟨b, o', none⟩ = w.cell? ⟨b, o', none⟩ := fun h => World.cell?_setCell_other _ _ _ _ (by intro e; cases e; exact h rfl)
  exact ⟨by rw [sz_set]; exact h0, World.cell?_setCell_same _ _ _ h1, by rw [f1 (by decide)]; exact h2, by rw [f1 (by decide)]; exact h3, fun o => by rw [World.frozen?_setCell]; exact h4 o⟩
theorem atS_new (w : World) (m : Bool) (E : Int) (t : TypeId) : AtS (w.alloc (Obj.cells #[.bool m, .slice none 0 0, .int .i64 E] t)) w.heap.size m (.slice none 0 0) E :=
  ⟨by rw [sz_alloc]; omega, by rw [World.cell?_alloc_at _ _ _ _ rfl]; rfl, by rw [World.cell?_alloc_at _ _ _ _ rfl]; rfl, by rw [World.cell?_alloc_at _ _ _ _ rfl]; rfl, fun o => by rw [World.frozen?_alloc_at _ _ _ _ rfl]⟩
set_option maxRecDepth 100000 in
set_option maxHeartbeats 8000000 in
theorem sum_s (w : World) (sz : Int) (d : Bool) (hs : Hid (Sz sz d)) (rm : Int) (h5 : 0 ≤ rm) (h3 : rm < 5) (M N : Num) (m1 m2 : Bool) (x1 x2 : Int) (g1 n1 p1 g2 n2 p2 A1 A2 : Nat)
    (hM : Hid (M.minus = m1 ∧ M.exp = x1 ∧ M.mag = A1)) (hN : Hid (N.minus = m2 ∧ N.exp = x2 ∧ N.mag = A2)) (hA : Hid (IsBig w g1 n1 p1 A1)) (hB : Hid (IsBig w g2 n2 p2 A2))
    (b1 : Hid (A1 < 2 ^ 107)) (b2 : Hid (A2 < 2 ^ 107)) (l1 : -2200 ≤ x1) (l2 : x1 ≤ 2000) (l3 : -2200 ≤ x2) (l4 : x2 ≤ 2000) :
    Calls Try.prog 39 #[.int .i64 sz, .int .i64 rm, .agg #[.bool m1, .slice (some ⟨g1, 0, none⟩) n1 p1, .int .i64 x1], .agg #[.bool m2, .slice (some ⟨g2, 0, none⟩) n2 p2, .int .i64 x2]] w (RetP (sumR d rm M N) w) := by
  obtain ⟨s, hs1, hs2⟩ : ∃ s : Nat, x1 - min x1 x2 = (s : Int) ∧ s = (x1 - min x1 x2).toNat := ⟨(x1 - min x1 x2).toNat, by omega, rfl⟩
  obtain ⟨t, ht1, ht2⟩ : ∃ t : Nat, x2 - min x1 x2 = (t : Int) ∧ t = (x2 - min x1 x2).toNat := ⟨(x2 - min x1 x2).toNat, by omega, rfl⟩
  obtain ⟨e, he⟩ : ∃ e : Int, e = min x1 x2 := ⟨_, rfl⟩
  have he1 : -2200 ≤ e := by omega
  have he2 : e ≤ 2000 := by omega
  have hs8 : s ≤ 4200 := by omega
  have ht8 : t ≤ 4200 := by omega
  have HA : Hid (sumA M N.exp = A1 * 2 ^ s) := by show _ = _; unfold sumA sumE; rw [hM.out.2.1, hN.out.2.1, hM.out.2.2, hs2]
  have HB : Hid (sumB M.exp N = A2 * 2 ^ t) := by show _ = _; unfold sumB sumE; rw [hM.out.2.1, hN.out.2.1, hN.out.2.2, ht2]
  have HE : Hid (sumE M.exp N.exp = e) := by show _ = _; unfold sumE; rw [hM.out.2.1, hN.out.2.1, he]
  have q1 := big_len hA.out (m := 4) (digits_of b1.out (by decide))
  have q2 := big_len hB.out (m := 4) (digits_of b2.out (by decide))
  obtain ⟨k, hk⟩ : ∃ k : Nat, k = 4320 := ⟨_, rfl⟩
  have HXL : Hid (A1 * 2 ^ s < 2 ^ k) := Nat.lt_of_lt_of_le (pow_lt b1.out) (Nat.pow_le_pow_right (by decide) (by omega))
  have HYL : Hid (A2 * 2 ^ t < 2 ^ k) := Nat.lt_of_lt_of_le (pow_lt b2.out) (Nat.pow_le_pow_right (by decide) (by omega))
  have HSUML : Hid (A1 * 2 ^ s + A2 * 2 ^ t < 2 ^ (k + 1)) := by show _ < _; rw [Nat.pow_succ]; have := HXL.out; have := HYL.out; omega
  have HK1 : Hid (k ≤ 32 * 140) := by show _ ≤ _; omega
  have HK2 : Hid (k + 1 ≤ 32 * 140) := by show _ ≤ _; omega
  clear hs2 ht2 hk
  have HS1 := Lib.hid hs1; have HT1 := Lib.hid ht1; have HEE := Lib.hid he
  clear hs1 ht1 he
  obtain ⟨X, hX⟩ : ∃ X, X = A1 * 2 ^ s := ⟨_, rfl⟩
  obtain ⟨Y, hY⟩ : ∃ Y, Y = A2 * 2 ^ t := ⟨_, rfl⟩
  rw [← hX] at HXL HSUML HA; rw [← hY] at HYL HSUML HB
  have HX := Lib.hid hX; have HY := Lib.hid hY
  clear hX hY
  go_enter Try.func39, Try.ntmps39
  go_wp2_with fail
  rw [HS1.out, ← HEE.out]
  have X0 := (atN_new w m1 g1 n1 p1 x1 57).below (below_one _ (Obj.cells #[.bool m2, .slice (some ⟨g2, 0, none⟩) n2 p2, .int .i64 x2] 57))
  have Y0 := atN_new (w.alloc (Obj.cells #[.bool m1, .slice (some ⟨g1, 0, none⟩) n1 p1, .int .i64 x1] 57)) m2 g2 n2 p2 x2 57
  rw [sz_alloc] at Y0
  have c0 : Below w.heap.size w ((w.alloc (Obj.cells #[.bool m1, .slice (some ⟨g1, 0, none⟩) n1 p1, .int .i64 x1] 57)).alloc (Obj.cells #[.bool m2, .slice (some ⟨g2, 0, none⟩) n2 p2, .int .i64 x2] 57)) := (below_one w _).trans ((below_one _ _).mono (by rw [sz_alloc]; omega))
  refine (up_c g1 n1 p1 A1 s _ (Lib.hid (raw_below hA.out.1 c0 (Nat.le_refl _))) (by omega) (by omega)).mono ?_
  rintro e0 v1 ⟨g3, n3, p3, rfl, hX1, c1⟩
  rw [← HX.out] at hX1
  have X1 : Hid (AtN v1 w.heap.size m1 g1 n1 p1 x1) := X0.below c1
  have Y1 : Hid (AtN v1 (w.heap.size + 1) m2 g2 n2 p2 x2) := Y0.below c1
  have d1 := c0.trans (c1.mono c0.size)
  clear X0 Y0 c0 c1
  have k1 := Y1.out.2.2.1; have k2 := Y1.out.2.2.2
  go_wp2_with fail
  rw [HEE.out, HT1.out, ← HEE.out]
  refine (up_c g2 n2 p2 A2 t _ (Lib.hid (raw_below hB.out.1 d1 (Nat.le_refl _))) (by omega) (by omega)).mono ?_
  rintro e0 v2 ⟨g4, n4, p4, rfl, hY2, c2⟩
  rw [← HY.out] at hY2
  have X2 : Hid (AtN v2 w.heap.size m1 g1 n1 p1 x1) := X1.out.below c2
  have Y2 : Hid (AtN v2 (w.heap.size + 1) m2 g2 n2 p2 x2) := Y1.out.below c2
  have hX2 : Hid (IsBig v2 g3 n3 p3 X) := big_below hX1.out c2 (Nat.le_refl _)
  have d2 := d1.trans (c2.mono d1.size)
  clear X1 Y1 d1 c2 hX1 k1 k2
  have hY2' : Hid (IsBig v2 g4 n4 p4 Y) := hY2
  clear hY2
  have q3 := big_len hX2.out (m := 140) (digits_of HXL.out HK1.out)
  have q4 := big_len hY2'.out (m := 140) (digits_of HYL.out HK1.out)
  have k0 := X2.out.2.1
  go_upto_region 6 with fail
  have S3 : Hid (AtS (v2.alloc (Obj.cells #[Value.bool m1, Value.slice none 0 0, Value.int .i64 e] 57)) v2.heap.size m1 (.slice none 0 0) e) := atS_new v2 m1 e _
  have e3 := below_one v2 (Obj.cells #[Value.bool m1, Value.slice none 0 0, Value.int .i64 e] 57)
  have X3 := Lib.hid (X2.out.below e3)
  have Y3 := Lib.hid (Y2.out.below e3)
  have hX3 := Lib.hid (big_below hX2.out e3 (Nat.le_refl _))
  have hY3 := Lib.hid (big_below hY2'.out e3 (Nat.le_refl _))
  have d3 := d2.trans (e3.mono d2.size)
  have hBw : w.heap.size + 1 < v2.heap.size := Y2.out.1
  clear X2 Y2 hX2 hY2' d2 e3 k0
  generalize (v2.alloc (Obj.cells #[Value.bool m1, Value.slice none 0 0, Value.int .i64 e] 57)) = v3 at *
  generalize v2.heap.size = B3 at *
  have hB1 : B3 ≠ w.heap.size := by omega
  have hB2 : B3 ≠ w.heap.size + 1 := by omega
  have hB0 : w.heap.size ≤ B3 := by omega
  have HBs := Lib.hid hB0
  have k0 := X3.out.2.1; have k1 := Y3.out.2.1
  have HSM : Hid (sumM M N = if m1 = m2 then X + Y else if X < Y then Y - X else X - Y) := by show _ = _; unfold sumM; rw [HA.out, HB.out, hM.out.1, hN.out.1]
  have HSS : Hid (sumS M N = if m1 = m2 then m1 else if X < Y then m2 else m1) := by show _ = _; unfold sumS; rw [HA.out, HB.out, hM.out.1, hN.out.1]
  have HSR : Hid (sumR d rm M N = if sumM M N = 0 then (if m1 = m2 ∧ X = 0 then noughtV d m1 else noughtV d (decide (rm = 2)), 0) else rnd d rm (sumS M N) (sumM M N) e) := by show _ = _; unfold sumR; rw [HA.out, HE.out, hM.out.1, hN.out.1]
  clear hM hN hA hB b1 b2 HA HB HE HS1 HT1 HEE HX HY hBw
  have hr4 : 0 ≤ rm ∧ rm ≤ 4 := by omega
  have HR4 := Lib.hid hr4; clear hr4
  by_cases hmm : m1 = m2
  · subst hmm
    have hmq : (m1 == m1) = true := by simp
    have HVL : Hid (X + Y < 2 ^ (k + 1)) := HSUML.out
    go_wp2_with fail
    skip
    refine (bplus_c g3 n3 p3 X g4 n4 p4 Y _ (Lib.hid hX3.out.1) (Lib.hid hY3.out.1) (by omega) (by omega)).mono ?_
    rintro e0 v4 ⟨g5, n5, p5, rfl, hV4, b4⟩
    have X4 := Lib.hid (X3.out.below b4)
    have Y4 := Lib.hid (Y3.out.below b4)
    have S4 := Lib.hid (S3.out.below b4)
    have d4 := d3.trans (b4.mono d3.size)
    clear S3 X3 Y3 d3 b4 hY3 k0 k1 hmq
    have hq5 := big_len hV4.out (m := 141) (digits_of HVL.out (Nat.le_trans HK2.out (by decide)))
    have S5 := Lib.hid (S4.out.set1 (.slice (some ⟨g5, 0, none⟩) n5 p5))
    have hV5 := Lib.hid (big_setS (o := 1) hV4.out S4.out.2.1 (.slice (some ⟨g5, 0, none⟩) n5 p5))
    have X5 := Lib.hid (X4.out.set (o := 1) hB1 (.slice (some ⟨g5, 0, none⟩) n5 p5))
    have Y5 := Lib.hid (Y4.out.set (o := 1) hB2 (.slice (some ⟨g5, 0, none⟩) n5 p5))
    have d5 := Below.setCell d4 (show w.heap.size ≤ (⟨B3, 1, none⟩ : Addr).block from HBs.out) (.slice (some ⟨g5, 0, none⟩) n5 p5)
    have z0 := S4.out.2.1; have z1 := S4.out.2.2.1; have zf := S4.out.2.2.2.2
    clear hV4 X4
    go_upto_region 11 with fail
    clear z0 z1 zf S4 Y4
    have S6 := S5; have hV6 := hV5; have X6 := X5; have Y6 := Y5; have d6 := d5
    clear S5 hV5 X5 Y5 d5
    generalize (v4.setCell ⟨B3, 1, none⟩ (Value.slice (some ⟨g5, 0, none⟩) n5 p5)) = v7 at *
    have z0 := S6.out.2.1; have z1 := S6.out.2.2.1; have z2 := S6.out.2.2.2.1
    have k0 := X6.out.2.1; have k1 := Y6.out.2.1
    by_cases hn5 : n5 = 0
    · have hn5' : ((n5 : Int) == 0) = true := by rw [beq_iff_eq]; omega
      have HZ : Hid (X + Y = 0) := (big_zero hV6.out).1 hn5
      clear hn5
      have HX0 : X = 0 := by have := HZ.out; omega
      have hn3 : ((n3 : Int) == 0) = true := by rw [beq_iff_eq]; have := (big_zero hX3.out).2 HX0; omega
      have hY0 : Y = 0 := by have := HZ.out; omega
      have E : Hid (sumR d rm M N = (noughtV d m1, 0)) := by show _ = _; rw [HSR.out, HSM.out]; simp [HX0, hY0]
      clear HX0 hY0
      go_wp2_with (go_at_call 42; refine (nought_s sz d hs m1 _).mono ?_; rintro e0 v8 ⟨rfl, h8⟩; replace h8 := h8.symm; subst h8)
      go_ret2
      exact retP_mk (by rw [E.out]) (by rw [E.out]) d6
    · have hn5' : ((n5 : Int) == 0) = false := by rw [beq_eq_false_iff_ne]; omega
      have HZ : Hid (X + Y ≠ 0) := fun q => hn5 ((big_zero hV6.out).2 q)
      clear hn5
      have E1 : sumM M N = X + Y := by rw [HSM.out]; simp
      have E2 : sumS M N = m1 := by rw [HSS.out]; simp
      have E : Hid (sumR d rm M N = roundR d rm m1 (X + Y) e false) := by show _ = _; rw [HSR.out, E1, E2, if_neg HZ.out, roundR_rnd d rm m1 (X + Y) e false _ _ (.inl ⟨rfl, rfl, rfl⟩) HZ.out (fun q => by cases q) HR4.out]
      clear E1 E2
      go_wp2_with (go_at_call 49; refine (round_s _ sz d hs rm m1 g5 n5 p5 (X + Y) e false hV6 (by omega) HZ (Lib.hid (fun q => by cases q)) (by omega) (by omega)).mono ?_; rintro e0 v8 ⟨rfl, b8⟩)
      go_ret2
      exact retP_mk (by rw [E.out]) (by rw [E.out]) (d6.trans (b8.mono d6.size))
  · have hmq : (m1 == m2) = false := by rw [beq_eq_false_iff_ne]; exact hmm
    have HNE := Lib.hid hmm; clear hmm
    by_cases hlt : X < Y
    · have HLT := Lib.hid hlt
      have HD : Hid (decide (X < Y) = true) := decide_eq_true hlt
      have HVL : Hid (Y - X < 2 ^ (k + 1)) := by show _ < _; have := HSUML.out; omega
      clear hlt
      go_wp2_with fail
      refine (less_c g3 n3 p3 X g4 n4 p4 Y _ hX3 hY3 (by omega) (by omega)).mono ?_
      rintro e0 v3b ⟨rfl, b3⟩
      rw [HD.out]
      have X3b := Lib.hid (X3.out.below b3)
      have Y3b := Lib.hid (Y3.out.below b3)
      have S3b := Lib.hid (S3.out.below b3)
      have d3b := d3.trans (b3.mono d3.size)
      have hXb := Lib.hid (big_below hX3.out b3 (Nat.le_refl _))
      have hYb := Lib.hid (big_below hY3.out b3 (Nat.le_refl _))
      clear X3 Y3 S3 d3 b3 k0 k1
      have HLE : Hid (X ≤ Y) := Nat.le_of_lt HLT.out
      go_wp2_with fail
      refine (bminus_c g4 n4 p4 Y g3 n3 p3 X _ (Lib.hid hYb.out.1) (Lib.hid hXb.out.1) HLE (by omega) (by omega)).mono ?_
      rintro e0 v4 ⟨g5, n5, p5, rfl, hV4, b4⟩
      have X4 := Lib.hid (X3b.out.below b4)
      have Y4 := Lib.hid (Y3b.out.below b4)
      have S4 := Lib.hid (S3b.out.below b4)
      have d4 := d3b.trans (b4.mono d3b.size)
      clear S3b X3b Y3b d3b b4 hYb hXb hX3 hY3 hmq
      have hq5 := big_len hV4.out (m := 141) (digits_of HVL.out (Nat.le_trans HK2.out (by decide)))
      have S5 := Lib.hid (S4.out.set1 (.slice (some ⟨g5, 0, none⟩) n5 p5))
      have hV5 := Lib.hid (big_setS (o := 1) hV4.out S4.out.2.1 (.slice (some ⟨g5, 0, none⟩) n5 p5))
      have X5 := Lib.hid (X4.out.set (o := 1) hB1 (.slice (some ⟨g5, 0, none⟩) n5 p5))
      have Y5 := Lib.hid (Y4.out.set (o := 1) hB2 (.slice (some ⟨g5, 0, none⟩) n5 p5))
      have d5 := Below.setCell d4 (show w.heap.size ≤ (⟨B3, 1, none⟩ : Addr).block from HBs.out) (.slice (some ⟨g5, 0, none⟩) n5 p5)
      have z0 := S4.out.2.1; have z1 := S4.out.2.2.1; have zf := S4.out.2.2.2.2
      have k1 := Y4.out.2.1
      clear hV4 X4
      go_upto_region 11 with fail
      clear z0 z1 zf S4 k1 Y4
      have S6 := Lib.hid (S5.out.set0 m2)
      have hV6 := Lib.hid (big_setS (o := 0) hV5.out S5.out.2.1 (.bool m2))
      have X6 := Lib.hid (X5.out.set (o := 0) hB1 (.bool m2))
      have Y6 := Lib.hid (Y5.out.set (o := 0) hB2 (.bool m2))
      have d6 := Below.setCell d5 (show w.heap.size ≤ (⟨B3, 0, none⟩ : Addr).block from HBs.out) (.bool m2)
      clear S5 hV5 X5 Y5 d5
      generalize ((v4.setCell ⟨B3, 1, none⟩ (Value.slice (some ⟨g5, 0, none⟩) n5 p5)).setCell ⟨B3, 0, none⟩ (Value.bool m2)) = v7 at *
      have z0 := S6.out.2.1; have z1 := S6.out.2.2.1; have z2 := S6.out.2.2.2.1
      have k0 := X6.out.2.1; have k1 := Y6.out.2.1
      by_cases hn5 : n5 = 0
      · have hn5' : ((n5 : Int) == 0) = true := by rw [beq_iff_eq]; omega
        have HZ : Hid (Y - X = 0) := (big_zero hV6.out).1 hn5
        clear hn5
        have E : Hid (sumR d rm M N = (noughtV d (decide (rm = 2)), 0)) := by show _ = _; rw [HSR.out, if_pos (by rw [HSM.out, if_neg HNE.out, if_pos HLT.out]; exact HZ.out), if_neg (fun q => HNE.out q.1)]
        have hrm : (rm == 2) = decide (rm = 2) := by rw [Bool.eq_iff_iff, beq_iff_eq, decide_eq_true_eq]
        go_wp2_with (go_at_call 42; refine (nought_s sz d hs _ _).mono ?_; rintro e0 v8 ⟨rfl, h8⟩; replace h8 := h8.symm; subst h8)
        go_ret2
        exact retP_mk (by rw [E.out]; try rfl) (by rw [E.out]) d6
      · have hn5' : ((n5 : Int) == 0) = false := by rw [beq_eq_false_iff_ne]; omega
        have HZ : Hid (Y - X ≠ 0) := fun q => hn5 ((big_zero hV6.out).2 q)
        clear hn5
        have E1 : sumM M N = Y - X := by rw [HSM.out, if_neg HNE.out, if_pos HLT.out]
        have E2 : sumS M N = m2 := by rw [HSS.out, if_neg HNE.out, if_pos HLT.out]
        have E : Hid (sumR d rm M N = roundR d rm m2 (Y - X) e false) := by show _ = _; rw [HSR.out, E1, E2, if_neg HZ.out, roundR_rnd d rm m2 (Y - X) e false _ _ (.inl ⟨rfl, rfl, rfl⟩) HZ.out (fun q => by cases q) HR4.out]
        clear E1 E2
        go_wp2_with (go_at_call 49; refine (round_s _ sz d hs rm m2 g5 n5 p5 (Y - X) e false hV6 (by omega) HZ (Lib.hid (fun q => by cases q)) (by omega) (by omega)).mono ?_; rintro e0 v8 ⟨rfl, b8⟩)
        go_ret2
        exact retP_mk (by rw [E.out]) (by rw [E.out]) (d6.trans (b8.mono d6.size))
    · have HLT := Lib.hid hlt
      have HD : Hid (decide (X < Y) = false) := decide_eq_false hlt
      have HVL : Hid (X - Y < 2 ^ (k + 1)) := by show _ < _; have := HSUML.out; omega
      have HLE : Hid (Y ≤ X) := by show _ ≤ _; omega
      clear hlt
      go_wp2_with fail
      refine (less_c g3 n3 p3 X g4 n4 p4 Y _ hX3 hY3 (by omega) (by omega)).mono ?_
      rintro e0 v3b ⟨rfl, b3⟩
      rw [HD.out]
      have X3b := Lib.hid (X3.out.below b3)
      have Y3b := Lib.hid (Y3.out.below b3)
      have S3b := Lib.hid (S3.out.below b3)
      have d3b := d3.trans (b3.mono d3.size)
      have hXb := Lib.hid (big_below hX3.out b3 (Nat.le_refl _))
      have hYb := Lib.hid (big_below hY3.out b3 (Nat.le_refl _))
      clear X3 Y3 S3 d3 b3 k0 k1
      go_wp2_with fail
      refine (bminus_c g3 n3 p3 X g4 n4 p4 Y _ (Lib.hid hXb.out.1) (Lib.hid hYb.out.1) HLE (by omega) (by omega)).mono ?_
      rintro e0 v4 ⟨g5, n5, p5, rfl, hV4, b4⟩
      have X4 := Lib.hid (X3b.out.below b4)
      have Y4 := Lib.hid (Y3b.out.below b4)
      have S4 := Lib.hid (S3b.out.below b4)
      have d4 := d3b.trans (b4.mono d3b.size)
      clear S3b X3b Y3b d3b b4 hYb hXb hX3 hY3 hmq
      have hq5 := big_len hV4.out (m := 141) (digits_of HVL.out (Nat.le_trans HK2.out (by decide)))
      have S5 := Lib.hid (S4.out.set1 (.slice (some ⟨g5, 0, none⟩) n5 p5))
      have hV5 := Lib.hid (big_setS (o := 1) hV4.out S4.out.2.1 (.slice (some ⟨g5, 0, none⟩) n5 p5))
      have X5 := Lib.hid (X4.out.set (o := 1) hB1 (.slice (some ⟨g5, 0, none⟩) n5 p5))
      have Y5 := Lib.hid (Y4.out.set (o := 1) hB2 (.slice (some ⟨g5, 0, none⟩) n5 p5))
      have d5 := Below.setCell d4 (show w.heap.size ≤ (⟨B3, 1, none⟩ : Addr).block from HBs.out) (.slice (some ⟨g5, 0, none⟩) n5 p5)
      have z0 := S4.out.2.1; have z1 := S4.out.2.2.1; have zf := S4.out.2.2.2.2
      clear hV4 X4
      go_upto_region 11 with fail
      clear z0 z1 zf S4 Y4
      have S6 := S5; have hV6 := hV5; have X6 := X5; have Y6 := Y5; have d6 := d5
      clear S5 hV5 X5 Y5 d5
      generalize (v4.setCell ⟨B3, 1, none⟩ (Value.slice (some ⟨g5, 0, none⟩) n5 p5)) = v7 at *
      have z0 := S6.out.2.1; have z1 := S6.out.2.2.1; have z2 := S6.out.2.2.2.1
      have k0 := X6.out.2.1; have k1 := Y6.out.2.1
      by_cases hn5 : n5 = 0
      · have hn5' : ((n5 : Int) == 0) = true := by rw [beq_iff_eq]; omega
        have HZ : Hid (X - Y = 0) := (big_zero hV6.out).1 hn5
        clear hn5
        have E : Hid (sumR d rm M N = (noughtV d (decide (rm = 2)), 0)) := by show _ = _; rw [HSR.out, if_pos (by rw [HSM.out, if_neg HNE.out, if_neg HLT.out]; exact HZ.out), if_neg (fun q => HNE.out q.1)]
        have hrm : (rm == 2) = decide (rm = 2) := by rw [Bool.eq_iff_iff, beq_iff_eq, decide_eq_true_eq]
        go_wp2_with (go_at_call 42; refine (nought_s sz d hs _ _).mono ?_; rintro e0 v8 ⟨rfl, h8⟩; replace h8 := h8.symm; subst h8)
        go_ret2
        exact retP_mk (by rw [E.out]; try rfl) (by rw [E.out]) d6
      · have hn5' : ((n5 : Int) == 0) = false := by rw [beq_eq_false_iff_ne]; omega
        have HZ : Hid (X - Y ≠ 0) := fun q => hn5 ((big_zero hV6.out).2 q)
        clear hn5
        have E1 : sumM M N = X - Y := by rw [HSM.out, if_neg HNE.out, if_neg HLT.out]
        have E2 : sumS M N = m1 := by rw [HSS.out, if_neg HNE.out, if_neg HLT.out]
        have E : Hid (sumR d rm M N = roundR d rm m1 (X - Y) e false) := by show _ = _; rw [HSR.out, E1, E2, if_neg HZ.out, roundR_rnd d rm m1 (X - Y) e false _ _ (.inl ⟨rfl, rfl, rfl⟩) HZ.out (fun q => by cases q) HR4.out]
        clear E1 E2
        go_wp2_with (go_at_call 49; refine (round_s _ sz d hs rm m1 g5 n5 p5 (X - Y) e false hV6 (by omega) HZ (Lib.hid (fun q => by cases q)) (by omega) (by omega)).mono ?_; rintro e0 v8 ⟨rfl, b8⟩)
        go_ret2
        exact retP_mk (by rw [E.out]) (by rw [E.out]) (d6.trans (b8.mono d6.size))
end Go.Proofs.Ythjdeopfbjmmeaa
