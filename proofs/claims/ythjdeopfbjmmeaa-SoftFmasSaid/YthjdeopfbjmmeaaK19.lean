/- The reference's Mul. -/
import Derived.Test.YthjdeopfbjmmeaaK18
import Derived.Deep.RegionHeld3
namespace Go.Proofs.Ythjdeopfbjmmeaa
open Go.ChangeShapes Go.WideShapes Go.ChangeAt Go.RowKit
set_option linter.unusedVariables false
set_option linter.unusedSimpArgs false
theorem raw_hid {w : World} {g n p A : Nat} (h : Hid (IsBig w g n p A)) : Hid (IsRaw w g n p A) := h.out.1
theorem atN_hb {W w' : World} {b : Nat} {m : Bool} {g n p : Nat} {E : Int} (H : Hid (AtN W b m g n p E)) (hb : Below W.heap.size W w') : Hid (AtN w' b m g n p E) := H.out.below hb
theorem big_hb {W w' : World} {g n p A : Nat} (H : Hid (IsBig W g n p A)) (hb : Below W.heap.size W w') : Hid (IsBig w' g n p A) := big_below H.out hb (Nat.le_refl _)
theorem below_hb {w W w' : World} (H : Hid (Below w.heap.size w W)) (hb : Below W.heap.size W w') : Hid (Below w.heap.size w w') := H.out.trans (hb.mono H.out.size)
theorem minus_xor (d : Bool) (a b : Nat) : (!(decide (a / signB d % 2 = 1) == decide (b / signB d % 2 = 1))) = (sgB d a != sgB d b) := rfl
theorem of_ne {d : Bool} {a : Nat} (hn : nanB d a = false) (hi : isInf d a = false) (hz : isZero d a = false) : ofM d a ≠ 0 := by
  obtain ⟨hc, -⟩ := class_cases d a
  rcases hc with ⟨h, h1, h2, -⟩ | ⟨h, h1, -⟩ | ⟨h, h1, -⟩ | ⟨h, -, -, -, -, h1, -⟩ | ⟨h, -, -, h1, -⟩
  · rw [h2] at hi; cases hi
  · rw [h1] at hn; cases hn
  · rw [h1] at hn; cases hn
  · rw [← h1]; exact (readN_fin d a h).1
  · rw [h1] at hz; cases hz
theorem inf_zero (d : Bool) (a : Nat) (h : isInf d a = true) : isZero d a = false := by
  obtain ⟨hc, -⟩ := class_cases d a
  rcases hc with ⟨-, -, h2, h3, -⟩ | ⟨-, -, h2, h3, -⟩ | ⟨-, -, h2, h3, -⟩ | ⟨-, -, h2, h3, -⟩ | ⟨-, -, h2, h3, -⟩ <;> first | exact h3 | (rw [h2] at h; cases h)
set_option maxRecDepth 100000 in
set_option maxHeartbeats 16000000 in
theorem Mul_r (sz : Int) (d : Bool) (hs : Hid (Sz sz d)) (rm : Int) (h5 : 0 ≤ rm) (h3 : rm < 5) (a b : Nat) (ha : Hid (a < 18446744073709551616)) (hb : Hid (b < 18446744073709551616)) (w : World) :
    Calls Try.prog 18 #[.int .i64 sz, .int .i64 rm, .int .u64 a, .int .u64 b] w (RetP (mulF d rm (readN d a) (readN d b)) w) := by
  obtain ⟨s, hsg⟩ : ∃ s, s = (sgB d a != sgB d b) := ⟨_, rfl⟩
  have HSG : Hid ((sgB d a != sgB d b) = s) := hsg.symm
  clear hsg
  have HR4 : Hid (0 ≤ rm ∧ rm ≤ 4) := by show _ ∧ _; omega
  cases hiA : isInf d a
  · cases hzA : isZero d a
    · have HIA := Lib.hid hiA; have HZA := Lib.hid hzA; clear hiA hzA
      cases hiB : isInf d b
      · cases hzB : isZero d b
        · have HIB := Lib.hid hiB; have HZB := Lib.hid hzB; clear hiB hzB
          obtain ⟨r, f, is, ho⟩ : ∃ r f is, oddV d [a, b] false = (r, f, is) := ⟨_, _, _, rfl⟩
          have HM : Hid (mulF d rm (readN d a) (readN d b) = if is then (r, f) else roundR d rm s (ofM d a * ofM d b) (ofE d a + ofE d b) false) := by show _ = _; rw [mul_ref d rm HR4.out a b, HIA.out, HIB.out, HZA.out, HZB.out, HSG.out]; show (if (oddV d [a, b] false).2.2 = true then ((oddV d [a, b] false).1, (oddV d [a, b] false).2.1) else roundR d rm s (ofM d a * ofM d b) (ofE d a + ofE d b) false) = _; rw [ho]
          have HO := Lib.hid ho; clear ho
          go_enter Try.func18, Try.ntmps18
          go_wp2_with fail
          refine (right_s sz d hs rm h5 h3 _).mono ?_; rintro e0 w1 ⟨rfl, bq⟩
          have hbw := bq; clear bq
          go_wp2_with fail
          refine (minused_s sz d hs a ha _).mono ?_; rintro e0 wq ⟨rfl, bq⟩
          replace hbw := hbw.trans (bq.mono hbw.size)
          clear bq
          go_wp2_with fail
          refine (minused_s sz d hs b hb _).mono ?_; rintro e0 wq ⟨rfl, bq⟩
          replace hbw := hbw.trans (bq.mono hbw.size)
          clear bq
          go_wp2_with fail
          have HL := Lib.hid (lst_2 wq a b 22)
          have hbw := hbw.trans ((below_one wq (Obj.cells #[.int .u64 a, .int .u64 b] 22)).mono hbw.size)
          refine (inf_s sz d hs a ha _).mono ?_; rintro e0 wq ⟨rfl, bq⟩
          rw [HIA.out]
          replace HL := Lib.hid (HL.out.below bq)
          replace hbw := hbw.trans (bq.mono hbw.size); clear bq
          go_wp2_with fail
          refine (zero_s sz d hs a ha _).mono ?_; rintro e0 wq ⟨rfl, bq⟩
          rw [HZA.out]
          replace HL := Lib.hid (HL.out.below bq)
          replace hbw := hbw.trans (bq.mono hbw.size)
          clear bq
          go_wp2_with fail
          refine (odd_l sz d hs _ [a, b] _ _ _ HL.out rfl (by simp) (get2 ha.out hb.out)).mono ?_; rintro e0 w9 ⟨rfl, bq⟩
          rw [HO.out]
          replace hbw := hbw.trans (bq.mono hbw.size); clear bq HL
          cases is
          · have HF : Hid (mulF d rm (readN d a) (readN d b) = roundR d rm s (ofM d a * ofM d b) (ofE d a + ofE d b) false) := HM.out
            go_wp2_with fail
            refine (inf_s sz d hs a ha _).mono ?_; rintro e0 wq ⟨rfl, bq⟩
            rw [HIA.out]
            replace hbw := hbw.trans (bq.mono hbw.size)
            clear bq
            go_wp2_with fail
            refine (inf_s sz d hs b hb _).mono ?_; rintro e0 wq ⟨rfl, bq⟩
            rw [HIB.out]
            replace hbw := hbw.trans (bq.mono hbw.size)
            clear bq
            go_wp2_with fail
            refine (zero_s sz d hs a ha _).mono ?_; rintro e0 wq ⟨rfl, bq⟩
            rw [HZA.out]
            replace hbw := hbw.trans (bq.mono hbw.size)
            clear bq
            go_wp2_with fail
            refine (zero_s sz d hs b hb _).mono ?_; rintro e0 wq ⟨rfl, bq⟩
            rw [HZB.out]
            replace hbw := hbw.trans (bq.mono hbw.size)
            clear bq
            have HCA := Lib.hid (ofN_finQ d a (cls_of (odd_no HO.out a (by simp)) HIA.out))
            have HCB := Lib.hid (ofN_finQ d b (cls_of (odd_no HO.out b (by simp)) HIB.out))
            have HNA := Lib.hid (of_ne (odd_no HO.out a (by simp)) HIA.out HZA.out)
            have HNB := Lib.hid (of_ne (odd_no HO.out b (by simp)) HIB.out HZB.out)
            go_wp2_with fail
            refine (of_s sz d hs a ha _).mono ?_; rintro e0 w10 ⟨g1, n1, p1, rfl, hA1, bq⟩
            replace hbw := hbw.trans (bq.mono hbw.size); clear bq
            have X1 := Lib.hid (atN_new w10 (decide (a / signB d % 2 = 1)) g1 n1 p1 (ofE d a) 57)
            have hA2 := Lib.hid (big_below hA1.out (below_one w10 (Obj.cells #[.bool (decide (a / signB d % 2 = 1)), .slice (some ⟨g1, 0, none⟩) n1 p1, .int .i64 (ofE d a)] 57)) (Nat.le_refl _))
            replace hbw := hbw.trans ((below_one w10 (Obj.cells #[.bool (decide (a / signB d % 2 = 1)), .slice (some ⟨g1, 0, none⟩) n1 p1, .int .i64 (ofE d a)] 57)).mono hbw.size)
            go_wp2_with fail
            refine (of_s sz d hs b hb _).mono ?_; rintro e0 w11 ⟨g2, n2, p2, rfl, hB1, bq⟩
            replace X1 := Lib.hid (X1.out.below bq)
            replace hA2 := Lib.hid (big_below hA2.out bq (Nat.le_refl _))
            replace hbw := hbw.trans (bq.mono hbw.size); clear bq hA1
            go_upto_region 13 with fail
            rename_i K0 k0
            have Y1 := Lib.hid (atN_new w11 (decide (b / signB d % 2 = 1)) g2 n2 p2 (ofE d b) 57)
            have eq1 := below_one w11 (Obj.cells #[.bool (decide (b / signB d % 2 = 1)), .slice (some ⟨g2, 0, none⟩) n2 p2, .int .i64 (ofE d b)] 57)
            replace X1 := Lib.hid (X1.out.below eq1)
            replace hA2 := Lib.hid (big_below hA2.out eq1 (Nat.le_refl _))
            have hB2 := Lib.hid (big_below hB1.out eq1 (Nat.le_refl _))
            replace hbw := hbw.trans (eq1.mono hbw.size); clear eq1 hB1
            have X2 : Hid (AtN (w11.alloc (Obj.cells #[.bool (decide (b / signB d % 2 = 1)), .slice (some ⟨g2, 0, none⟩) n2 p2, .int .i64 (ofE d b)] 57)) w10.heap.size (decide (a / signB d % 2 = 1)) g1 n1 p1 (ofE d a)) := X1
            clear X1
            generalize (w11.alloc (Obj.cells #[Value.bool (decide (b / signB d % 2 = 1)), Value.slice (some ⟨g2, 0, none⟩) n2 p2, Value.int .i64 (ofE d b)] 57)) = w12 at *
            generalize w10.heap.size = B1 at *
            generalize w11.heap.size = B2 at *
            have HB := Lib.hid hbw; have HB2 : Hid (Below w.heap.size w w12.drew) := HB.out.drew; clear hbw
            have q1 := big_len hA2.out (m := 2) (digits_of HCA.out.2.1 (by decide))
            have q2 := big_len hB2.out (m := 2) (digits_of HCB.out.2.1 (by decide))
            have HPL : Hid (ofM d a * ofM d b < 2 ^ (53 + 53)) := by show _ < _; rw [Nat.pow_add]; exact Nat.mul_lt_mul'' HCA.out.2.1 HCB.out.2.1
            have HP0 : Hid (ofM d a * ofM d b ≠ 0) := Nat.mul_ne_zero HNA.out HNB.out
            have ee1 : -5000 ≤ ofE d a + ofE d b := by have := HCA.out.2.2.1; have := HCB.out.2.2.1; omega
            have ee2 : ofE d a + ofE d b ≤ 5000 := by have := HCA.out.2.2.2; have := HCB.out.2.2.2; omega
            have ew : IntKind.i64.wrap (ofE d a + ofE d b) = ofE d a + ofE d b := IntWalk.i64_in _ (by omega)
            have x1 := X2.out.2.2.1; have x2 := X2.out.2.2.2; have y1 := Y1.out.2.2.1; have y2 := Y1.out.2.2.2
            go_region_held3 (fun w' => w'.cell? ⟨B1, 1, none⟩ = some (.slice (some ⟨g1, 0, none⟩) n1 p1) ∧ w'.cell? ⟨B1, 2, none⟩ = some (.int .i64 (ofE d a)) ∧ w'.cell? ⟨B2, 1, none⟩ = some (.slice (some ⟨g2, 0, none⟩) n2 p2) ∧ w'.cell? ⟨B2, 2, none⟩ = some (.int .i64 (ofE d b)) ∧ Hid (AtN w' B1 (decide (a / signB d % 2 = 1)) g1 n1 p1 (ofE d a)) ∧ Hid (AtN w' B2 (decide (b / signB d % 2 = 1)) g2 n2 p2 (ofE d b)) ∧ Hid (IsBig w' g1 n1 p1 (ofM d a)) ∧ Hid (IsBig w' g2 n2 p2 (ofM d b)) ∧ Hid (Below w.heap.size w w')) (refine ⟨?_, ?_, ?_, ?_, ?_, ?_, ?_, ?_, ?_⟩ <;> first | assumption | (go_keep; done)) (first | (go_at_call 50; obtain ⟨-, -, -, -, t1, t2, t3, t4, t5⟩ := ‹_ ∧ _ ∧ _ ∧ _ ∧ Hid (AtN _ B1 _ _ _ _ _) ∧ _›; refine (times_c g1 n1 p1 (ofM d a) g2 n2 p2 (ofM d b) _ (raw_hid t3) (raw_hid t4) (by omega) (by omega)).mono ?_; rintro e3 w13 ⟨g3, n3, p3, rfl, hP, b3⟩; have s1 := atN_hb t1 b3; have s2 := atN_hb t2 b3; have s3 := big_hb t3 b3; have s4 := big_hb t4 b3; have s5 := below_hb t5 b3; clear t1 t2 t3 t4 t5; have l3 := big_len hP.out (m := 4) (digits_of HPL.out (by decide)); have z1 := s1.out.2.2.1; have z2 := s1.out.2.2.2; have z3 := s2.out.2.2.1; have z4 := s2.out.2.2.2) | (go_at_call 49; obtain ⟨-, -, -, -, t1, t2, t3, t4, t5⟩ := ‹_ ∧ _ ∧ _ ∧ _ ∧ Hid (AtN _ B1 _ _ _ _ _) ∧ _›; refine (round_s _ sz d hs rm _ g3 n3 p3 (ofM d a * ofM d b) (ofE d a + ofE d b) false (by assumption) (by omega) HP0 (Lib.hid (fun q => by cases q)) ee1 ee2).mono ?_; rintro e4 w14 ⟨rfl, b4⟩; have s1 := atN_hb t1 b4; have s2 := atN_hb t2 b4; have s3 := big_hb t3 b4; have s4 := big_hb t4 b4; have s5 := below_hb t5 b4; clear t1 t2 t3 t4 t5; have z1 := s1.out.2.2.1; have z2 := s1.out.2.2.2; have z3 := s2.out.2.2.1; have z4 := s2.out.2.2.2))
            refine k0 _ _ ?_
            go_wp2_with fail
            go_ret2
            exact retP_mk (by rw [HF.out, ← HSG.out, ← minus_xor]) (by rw [HF.out, ← HSG.out, ← minus_xor]) s5.out
          · have HF : Hid (mulF d rm (readN d a) (readN d b) = (r, f)) := HM.out
            go_wp2_with fail
            go_ret2
            exact retP_mk (by rw [HF.out]) (by rw [HF.out]) hbw
        · have HIB := Lib.hid hiB; have HZB := Lib.hid hzB; clear hiB hzB
          obtain ⟨r, f, is, ho⟩ : ∃ r f is, oddV d [a, b] false = (r, f, is) := ⟨_, _, _, rfl⟩
          have HM : Hid (mulF d rm (readN d a) (readN d b) = if is then (r, f) else (noughtV d s, 0)) := by show _ = _; rw [mul_ref d rm HR4.out a b, HIA.out, HIB.out, HZA.out, HZB.out, HSG.out]; show (if (oddV d [a, b] false).2.2 = true then ((oddV d [a, b] false).1, (oddV d [a, b] false).2.1) else (noughtV d s, 0)) = _; rw [ho]
          have HO := Lib.hid ho; clear ho
          go_enter Try.func18, Try.ntmps18
          go_wp2_with fail
          refine (right_s sz d hs rm h5 h3 _).mono ?_; rintro e0 w1 ⟨rfl, bq⟩
          have hbw := bq; clear bq
          go_wp2_with fail
          refine (minused_s sz d hs a ha _).mono ?_; rintro e0 wq ⟨rfl, bq⟩
          replace hbw := hbw.trans (bq.mono hbw.size)
          clear bq
          go_wp2_with fail
          refine (minused_s sz d hs b hb _).mono ?_; rintro e0 wq ⟨rfl, bq⟩
          replace hbw := hbw.trans (bq.mono hbw.size)
          clear bq
          go_wp2_with fail
          have HL := Lib.hid (lst_2 wq a b 22)
          have hbw := hbw.trans ((below_one wq (Obj.cells #[.int .u64 a, .int .u64 b] 22)).mono hbw.size)
          refine (inf_s sz d hs a ha _).mono ?_; rintro e0 wq ⟨rfl, bq⟩
          rw [HIA.out]
          replace HL := Lib.hid (HL.out.below bq)
          replace hbw := hbw.trans (bq.mono hbw.size); clear bq
          go_wp2_with fail
          refine (zero_s sz d hs a ha _).mono ?_; rintro e0 wq ⟨rfl, bq⟩
          rw [HZA.out]
          replace HL := Lib.hid (HL.out.below bq)
          replace hbw := hbw.trans (bq.mono hbw.size)
          clear bq
          go_wp2_with fail
          refine (odd_l sz d hs _ [a, b] _ _ _ HL.out rfl (by simp) (get2 ha.out hb.out)).mono ?_; rintro e0 w9 ⟨rfl, bq⟩
          rw [HO.out]
          replace hbw := hbw.trans (bq.mono hbw.size); clear bq HL
          cases is
          · have HF : Hid (mulF d rm (readN d a) (readN d b) = (noughtV d s, 0)) := HM.out
            go_wp2_with fail
            refine (inf_s sz d hs a ha _).mono ?_; rintro e0 wq ⟨rfl, bq⟩
            rw [HIA.out]
            replace hbw := hbw.trans (bq.mono hbw.size)
            clear bq
            go_wp2_with fail
            refine (inf_s sz d hs b hb _).mono ?_; rintro e0 wq ⟨rfl, bq⟩
            rw [HIB.out]
            replace hbw := hbw.trans (bq.mono hbw.size)
            clear bq
            go_wp2_with fail
            refine (zero_s sz d hs a ha _).mono ?_; rintro e0 wq ⟨rfl, bq⟩
            rw [HZA.out]
            replace hbw := hbw.trans (bq.mono hbw.size)
            clear bq
            go_wp2_with fail
            refine (zero_s sz d hs b hb _).mono ?_; rintro e0 wq ⟨rfl, bq⟩
            rw [HZB.out]
            replace hbw := hbw.trans (bq.mono hbw.size)
            clear bq
            go_wp2_with fail
            rw [minus_xor, HSG.out]
            refine (nought_s sz d hs s _).mono ?_; rintro e0 wq ⟨rfl, h8⟩; replace h8 := h8.symm; subst h8
            go_wp2_with fail
            go_ret2
            exact retP_mk (by rw [HF.out]) (by rw [HF.out]) hbw
          · have HF : Hid (mulF d rm (readN d a) (readN d b) = (r, f)) := HM.out
            go_wp2_with fail
            go_ret2
            exact retP_mk (by rw [HF.out]) (by rw [HF.out]) hbw
      · have hzB := inf_zero d b hiB
        have HIB := Lib.hid hiB; have HZB := Lib.hid hzB; clear hiB hzB
        obtain ⟨r, f, is, ho⟩ : ∃ r f is, oddV d [a, b] false = (r, f, is) := ⟨_, _, _, rfl⟩
        have HM : Hid (mulF d rm (readN d a) (readN d b) = if is then (r, f) else (infV d s, 0)) := by show _ = _; rw [mul_ref d rm HR4.out a b, HIA.out, HIB.out, HZA.out, HZB.out, HSG.out]; show (if (oddV d [a, b] false).2.2 = true then ((oddV d [a, b] false).1, (oddV d [a, b] false).2.1) else (infV d s, 0)) = _; rw [ho]
        have HO := Lib.hid ho; clear ho
        go_enter Try.func18, Try.ntmps18
        go_wp2_with fail
        refine (right_s sz d hs rm h5 h3 _).mono ?_; rintro e0 w1 ⟨rfl, bq⟩
        have hbw := bq; clear bq
        go_wp2_with fail
        refine (minused_s sz d hs a ha _).mono ?_; rintro e0 wq ⟨rfl, bq⟩
        replace hbw := hbw.trans (bq.mono hbw.size)
        clear bq
        go_wp2_with fail
        refine (minused_s sz d hs b hb _).mono ?_; rintro e0 wq ⟨rfl, bq⟩
        replace hbw := hbw.trans (bq.mono hbw.size)
        clear bq
        go_wp2_with fail
        have HL := Lib.hid (lst_2 wq a b 22)
        have hbw := hbw.trans ((below_one wq (Obj.cells #[.int .u64 a, .int .u64 b] 22)).mono hbw.size)
        refine (inf_s sz d hs a ha _).mono ?_; rintro e0 wq ⟨rfl, bq⟩
        rw [HIA.out]
        replace HL := Lib.hid (HL.out.below bq)
        replace hbw := hbw.trans (bq.mono hbw.size); clear bq
        go_wp2_with fail
        refine (zero_s sz d hs a ha _).mono ?_; rintro e0 wq ⟨rfl, bq⟩
        rw [HZA.out]
        replace HL := Lib.hid (HL.out.below bq)
        replace hbw := hbw.trans (bq.mono hbw.size)
        clear bq
        go_wp2_with fail
        refine (odd_l sz d hs _ [a, b] _ _ _ HL.out rfl (by simp) (get2 ha.out hb.out)).mono ?_; rintro e0 w9 ⟨rfl, bq⟩
        rw [HO.out]
        replace hbw := hbw.trans (bq.mono hbw.size); clear bq HL
        cases is
        · have HF : Hid (mulF d rm (readN d a) (readN d b) = (infV d s, 0)) := HM.out
          go_wp2_with fail
          refine (inf_s sz d hs a ha _).mono ?_; rintro e0 wq ⟨rfl, bq⟩
          rw [HIA.out]
          replace hbw := hbw.trans (bq.mono hbw.size)
          clear bq
          go_wp2_with fail
          refine (inf_s sz d hs b hb _).mono ?_; rintro e0 wq ⟨rfl, bq⟩
          rw [HIB.out]
          replace hbw := hbw.trans (bq.mono hbw.size)
          clear bq
          go_wp2_with fail
          rw [minus_xor, HSG.out]
          refine (infinity_s sz d hs s _).mono ?_; rintro e0 wq ⟨rfl, bq⟩
          replace hbw := hbw.trans (bq.mono hbw.size)
          clear bq
          go_wp2_with fail
          go_ret2
          exact retP_mk (by rw [HF.out]) (by rw [HF.out]) hbw
        · have HF : Hid (mulF d rm (readN d a) (readN d b) = (r, f)) := HM.out
          go_wp2_with fail
          go_ret2
          exact retP_mk (by rw [HF.out]) (by rw [HF.out]) hbw
    · have HIA := Lib.hid hiA; have HZA := Lib.hid hzA; clear hiA hzA
      cases hiB : isInf d b
      · cases hzB : isZero d b
        · have HIB := Lib.hid hiB; have HZB := Lib.hid hzB; clear hiB hzB
          obtain ⟨r, f, is, ho⟩ : ∃ r f is, oddV d [a, b] false = (r, f, is) := ⟨_, _, _, rfl⟩
          have HM : Hid (mulF d rm (readN d a) (readN d b) = if is then (r, f) else (noughtV d s, 0)) := by show _ = _; rw [mul_ref d rm HR4.out a b, HIA.out, HIB.out, HZA.out, HZB.out, HSG.out]; show (if (oddV d [a, b] false).2.2 = true then ((oddV d [a, b] false).1, (oddV d [a, b] false).2.1) else (noughtV d s, 0)) = _; rw [ho]
          have HO := Lib.hid ho; clear ho
          go_enter Try.func18, Try.ntmps18
          go_wp2_with fail
          refine (right_s sz d hs rm h5 h3 _).mono ?_; rintro e0 w1 ⟨rfl, bq⟩
          have hbw := bq; clear bq
          go_wp2_with fail
          refine (minused_s sz d hs a ha _).mono ?_; rintro e0 wq ⟨rfl, bq⟩
          replace hbw := hbw.trans (bq.mono hbw.size)
          clear bq
          go_wp2_with fail
          refine (minused_s sz d hs b hb _).mono ?_; rintro e0 wq ⟨rfl, bq⟩
          replace hbw := hbw.trans (bq.mono hbw.size)
          clear bq
          go_wp2_with fail
          have HL := Lib.hid (lst_2 wq a b 22)
          have hbw := hbw.trans ((below_one wq (Obj.cells #[.int .u64 a, .int .u64 b] 22)).mono hbw.size)
          refine (inf_s sz d hs a ha _).mono ?_; rintro e0 wq ⟨rfl, bq⟩
          rw [HIA.out]
          replace HL := Lib.hid (HL.out.below bq)
          replace hbw := hbw.trans (bq.mono hbw.size); clear bq
          go_wp2_with fail
          refine (zero_s sz d hs a ha _).mono ?_; rintro e0 wq ⟨rfl, bq⟩
          rw [HZA.out]
          replace HL := Lib.hid (HL.out.below bq)
          replace hbw := hbw.trans (bq.mono hbw.size)
          clear bq
          go_wp2_with fail
          refine (inf_s sz d hs b hb _).mono ?_; rintro e0 wq ⟨rfl, bq⟩
          rw [HIB.out]
          replace HL := Lib.hid (HL.out.below bq)
          replace hbw := hbw.trans (bq.mono hbw.size)
          clear bq
          go_wp2_with fail
          refine (odd_l sz d hs _ [a, b] _ _ _ HL.out rfl (by simp) (get2 ha.out hb.out)).mono ?_; rintro e0 w9 ⟨rfl, bq⟩
          rw [HO.out]
          replace hbw := hbw.trans (bq.mono hbw.size); clear bq HL
          cases is
          · have HF : Hid (mulF d rm (readN d a) (readN d b) = (noughtV d s, 0)) := HM.out
            go_wp2_with fail
            refine (inf_s sz d hs a ha _).mono ?_; rintro e0 wq ⟨rfl, bq⟩
            rw [HIA.out]
            replace hbw := hbw.trans (bq.mono hbw.size)
            clear bq
            go_wp2_with fail
            refine (inf_s sz d hs b hb _).mono ?_; rintro e0 wq ⟨rfl, bq⟩
            rw [HIB.out]
            replace hbw := hbw.trans (bq.mono hbw.size)
            clear bq
            go_wp2_with fail
            refine (zero_s sz d hs a ha _).mono ?_; rintro e0 wq ⟨rfl, bq⟩
            rw [HZA.out]
            replace hbw := hbw.trans (bq.mono hbw.size)
            clear bq
            go_wp2_with fail
            rw [minus_xor, HSG.out]
            refine (nought_s sz d hs s _).mono ?_; rintro e0 wq ⟨rfl, h8⟩; replace h8 := h8.symm; subst h8
            go_wp2_with fail
            go_ret2
            exact retP_mk (by rw [HF.out]) (by rw [HF.out]) hbw
          · have HF : Hid (mulF d rm (readN d a) (readN d b) = (r, f)) := HM.out
            go_wp2_with fail
            go_ret2
            exact retP_mk (by rw [HF.out]) (by rw [HF.out]) hbw
        · have HIB := Lib.hid hiB; have HZB := Lib.hid hzB; clear hiB hzB
          obtain ⟨r, f, is, ho⟩ : ∃ r f is, oddV d [a, b] false = (r, f, is) := ⟨_, _, _, rfl⟩
          have HM : Hid (mulF d rm (readN d a) (readN d b) = if is then (r, f) else (noughtV d s, 0)) := by show _ = _; rw [mul_ref d rm HR4.out a b, HIA.out, HIB.out, HZA.out, HZB.out, HSG.out]; show (if (oddV d [a, b] false).2.2 = true then ((oddV d [a, b] false).1, (oddV d [a, b] false).2.1) else (noughtV d s, 0)) = _; rw [ho]
          have HO := Lib.hid ho; clear ho
          go_enter Try.func18, Try.ntmps18
          go_wp2_with fail
          refine (right_s sz d hs rm h5 h3 _).mono ?_; rintro e0 w1 ⟨rfl, bq⟩
          have hbw := bq; clear bq
          go_wp2_with fail
          refine (minused_s sz d hs a ha _).mono ?_; rintro e0 wq ⟨rfl, bq⟩
          replace hbw := hbw.trans (bq.mono hbw.size)
          clear bq
          go_wp2_with fail
          refine (minused_s sz d hs b hb _).mono ?_; rintro e0 wq ⟨rfl, bq⟩
          replace hbw := hbw.trans (bq.mono hbw.size)
          clear bq
          go_wp2_with fail
          have HL := Lib.hid (lst_2 wq a b 22)
          have hbw := hbw.trans ((below_one wq (Obj.cells #[.int .u64 a, .int .u64 b] 22)).mono hbw.size)
          refine (inf_s sz d hs a ha _).mono ?_; rintro e0 wq ⟨rfl, bq⟩
          rw [HIA.out]
          replace HL := Lib.hid (HL.out.below bq)
          replace hbw := hbw.trans (bq.mono hbw.size); clear bq
          go_wp2_with fail
          refine (zero_s sz d hs a ha _).mono ?_; rintro e0 wq ⟨rfl, bq⟩
          rw [HZA.out]
          replace HL := Lib.hid (HL.out.below bq)
          replace hbw := hbw.trans (bq.mono hbw.size)
          clear bq
          go_wp2_with fail
          refine (inf_s sz d hs b hb _).mono ?_; rintro e0 wq ⟨rfl, bq⟩
          rw [HIB.out]
          replace HL := Lib.hid (HL.out.below bq)
          replace hbw := hbw.trans (bq.mono hbw.size)
          clear bq
          go_wp2_with fail
          refine (odd_l sz d hs _ [a, b] _ _ _ HL.out rfl (by simp) (get2 ha.out hb.out)).mono ?_; rintro e0 w9 ⟨rfl, bq⟩
          rw [HO.out]
          replace hbw := hbw.trans (bq.mono hbw.size); clear bq HL
          cases is
          · have HF : Hid (mulF d rm (readN d a) (readN d b) = (noughtV d s, 0)) := HM.out
            go_wp2_with fail
            refine (inf_s sz d hs a ha _).mono ?_; rintro e0 wq ⟨rfl, bq⟩
            rw [HIA.out]
            replace hbw := hbw.trans (bq.mono hbw.size)
            clear bq
            go_wp2_with fail
            refine (inf_s sz d hs b hb _).mono ?_; rintro e0 wq ⟨rfl, bq⟩
            rw [HIB.out]
            replace hbw := hbw.trans (bq.mono hbw.size)
            clear bq
            go_wp2_with fail
            refine (zero_s sz d hs a ha _).mono ?_; rintro e0 wq ⟨rfl, bq⟩
            rw [HZA.out]
            replace hbw := hbw.trans (bq.mono hbw.size)
            clear bq
            go_wp2_with fail
            rw [minus_xor, HSG.out]
            refine (nought_s sz d hs s _).mono ?_; rintro e0 wq ⟨rfl, h8⟩; replace h8 := h8.symm; subst h8
            go_wp2_with fail
            go_ret2
            exact retP_mk (by rw [HF.out]) (by rw [HF.out]) hbw
          · have HF : Hid (mulF d rm (readN d a) (readN d b) = (r, f)) := HM.out
            go_wp2_with fail
            go_ret2
            exact retP_mk (by rw [HF.out]) (by rw [HF.out]) hbw
      · have hzB := inf_zero d b hiB
        have HIB := Lib.hid hiB; have HZB := Lib.hid hzB; clear hiB hzB
        obtain ⟨r, f, is, ho⟩ : ∃ r f is, oddV d [a, b] true = (r, f, is) := ⟨_, _, _, rfl⟩
        have HM : Hid (mulF d rm (readN d a) (readN d b) = if is then (r, f) else (infV d s, 0)) := by show _ = _; rw [mul_ref d rm HR4.out a b, HIA.out, HIB.out, HZA.out, HZB.out, HSG.out]; show (if (oddV d [a, b] true).2.2 = true then ((oddV d [a, b] true).1, (oddV d [a, b] true).2.1) else (infV d s, 0)) = _; rw [ho]
        have HO := Lib.hid ho; clear ho
        go_enter Try.func18, Try.ntmps18
        go_wp2_with fail
        refine (right_s sz d hs rm h5 h3 _).mono ?_; rintro e0 w1 ⟨rfl, bq⟩
        have hbw := bq; clear bq
        go_wp2_with fail
        refine (minused_s sz d hs a ha _).mono ?_; rintro e0 wq ⟨rfl, bq⟩
        replace hbw := hbw.trans (bq.mono hbw.size)
        clear bq
        go_wp2_with fail
        refine (minused_s sz d hs b hb _).mono ?_; rintro e0 wq ⟨rfl, bq⟩
        replace hbw := hbw.trans (bq.mono hbw.size)
        clear bq
        go_wp2_with fail
        have HL := Lib.hid (lst_2 wq a b 22)
        have hbw := hbw.trans ((below_one wq (Obj.cells #[.int .u64 a, .int .u64 b] 22)).mono hbw.size)
        refine (inf_s sz d hs a ha _).mono ?_; rintro e0 wq ⟨rfl, bq⟩
        rw [HIA.out]
        replace HL := Lib.hid (HL.out.below bq)
        replace hbw := hbw.trans (bq.mono hbw.size); clear bq
        go_wp2_with fail
        refine (zero_s sz d hs a ha _).mono ?_; rintro e0 wq ⟨rfl, bq⟩
        rw [HZA.out]
        replace HL := Lib.hid (HL.out.below bq)
        replace hbw := hbw.trans (bq.mono hbw.size)
        clear bq
        go_wp2_with fail
        refine (inf_s sz d hs b hb _).mono ?_; rintro e0 wq ⟨rfl, bq⟩
        rw [HIB.out]
        replace HL := Lib.hid (HL.out.below bq)
        replace hbw := hbw.trans (bq.mono hbw.size)
        clear bq
        go_wp2_with fail
        refine (odd_l sz d hs _ [a, b] _ _ _ HL.out rfl (by simp) (get2 ha.out hb.out)).mono ?_; rintro e0 w9 ⟨rfl, bq⟩
        rw [HO.out]
        replace hbw := hbw.trans (bq.mono hbw.size); clear bq HL
        cases is
        · have HF : Hid (mulF d rm (readN d a) (readN d b) = (infV d s, 0)) := HM.out
          go_wp2_with fail
          refine (inf_s sz d hs a ha _).mono ?_; rintro e0 wq ⟨rfl, bq⟩
          rw [HIA.out]
          replace hbw := hbw.trans (bq.mono hbw.size)
          clear bq
          go_wp2_with fail
          refine (inf_s sz d hs b hb _).mono ?_; rintro e0 wq ⟨rfl, bq⟩
          rw [HIB.out]
          replace hbw := hbw.trans (bq.mono hbw.size)
          clear bq
          go_wp2_with fail
          rw [minus_xor, HSG.out]
          refine (infinity_s sz d hs s _).mono ?_; rintro e0 wq ⟨rfl, bq⟩
          replace hbw := hbw.trans (bq.mono hbw.size)
          clear bq
          go_wp2_with fail
          go_ret2
          exact retP_mk (by rw [HF.out]) (by rw [HF.out]) hbw
        · have HF : Hid (mulF d rm (readN d a) (readN d b) = (r, f)) := HM.out
          go_wp2_with fail
          go_ret2
          exact retP_mk (by rw [HF.out]) (by rw [HF.out]) hbw
  · have hzA := inf_zero d a hiA
    have HIA := Lib.hid hiA; have HZA := Lib.hid hzA; clear hiA hzA
    cases hiB : isInf d b
    · cases hzB : isZero d b
      · have HIB := Lib.hid hiB; have HZB := Lib.hid hzB; clear hiB hzB
        obtain ⟨r, f, is, ho⟩ : ∃ r f is, oddV d [a, b] false = (r, f, is) := ⟨_, _, _, rfl⟩
        have HM : Hid (mulF d rm (readN d a) (readN d b) = if is then (r, f) else (infV d s, 0)) := by show _ = _; rw [mul_ref d rm HR4.out a b, HIA.out, HIB.out, HZA.out, HZB.out, HSG.out]; show (if (oddV d [a, b] false).2.2 = true then ((oddV d [a, b] false).1, (oddV d [a, b] false).2.1) else (infV d s, 0)) = _; rw [ho]
        have HO := Lib.hid ho; clear ho
        go_enter Try.func18, Try.ntmps18
        go_wp2_with fail
        refine (right_s sz d hs rm h5 h3 _).mono ?_; rintro e0 w1 ⟨rfl, bq⟩
        have hbw := bq; clear bq
        go_wp2_with fail
        refine (minused_s sz d hs a ha _).mono ?_; rintro e0 wq ⟨rfl, bq⟩
        replace hbw := hbw.trans (bq.mono hbw.size)
        clear bq
        go_wp2_with fail
        refine (minused_s sz d hs b hb _).mono ?_; rintro e0 wq ⟨rfl, bq⟩
        replace hbw := hbw.trans (bq.mono hbw.size)
        clear bq
        go_wp2_with fail
        have HL := Lib.hid (lst_2 wq a b 22)
        have hbw := hbw.trans ((below_one wq (Obj.cells #[.int .u64 a, .int .u64 b] 22)).mono hbw.size)
        refine (inf_s sz d hs a ha _).mono ?_; rintro e0 wq ⟨rfl, bq⟩
        rw [HIA.out]
        replace HL := Lib.hid (HL.out.below bq)
        replace hbw := hbw.trans (bq.mono hbw.size); clear bq
        go_wp2_with fail
        refine (zero_s sz d hs b hb _).mono ?_; rintro e0 wq ⟨rfl, bq⟩
        rw [HZB.out]
        replace HL := Lib.hid (HL.out.below bq)
        replace hbw := hbw.trans (bq.mono hbw.size)
        clear bq
        go_wp2_with fail
        refine (zero_s sz d hs a ha _).mono ?_; rintro e0 wq ⟨rfl, bq⟩
        rw [HZA.out]
        replace HL := Lib.hid (HL.out.below bq)
        replace hbw := hbw.trans (bq.mono hbw.size)
        clear bq
        go_wp2_with fail
        refine (odd_l sz d hs _ [a, b] _ _ _ HL.out rfl (by simp) (get2 ha.out hb.out)).mono ?_; rintro e0 w9 ⟨rfl, bq⟩
        rw [HO.out]
        replace hbw := hbw.trans (bq.mono hbw.size); clear bq HL
        cases is
        · have HF : Hid (mulF d rm (readN d a) (readN d b) = (infV d s, 0)) := HM.out
          go_wp2_with fail
          refine (inf_s sz d hs a ha _).mono ?_; rintro e0 wq ⟨rfl, bq⟩
          rw [HIA.out]
          replace hbw := hbw.trans (bq.mono hbw.size)
          clear bq
          go_wp2_with fail
          rw [minus_xor, HSG.out]
          refine (infinity_s sz d hs s _).mono ?_; rintro e0 wq ⟨rfl, bq⟩
          replace hbw := hbw.trans (bq.mono hbw.size)
          clear bq
          go_wp2_with fail
          go_ret2
          exact retP_mk (by rw [HF.out]) (by rw [HF.out]) hbw
        · have HF : Hid (mulF d rm (readN d a) (readN d b) = (r, f)) := HM.out
          go_wp2_with fail
          go_ret2
          exact retP_mk (by rw [HF.out]) (by rw [HF.out]) hbw
      · have HIB := Lib.hid hiB; have HZB := Lib.hid hzB; clear hiB hzB
        obtain ⟨r, f, is, ho⟩ : ∃ r f is, oddV d [a, b] true = (r, f, is) := ⟨_, _, _, rfl⟩
        have HM : Hid (mulF d rm (readN d a) (readN d b) = if is then (r, f) else (infV d s, 0)) := by show _ = _; rw [mul_ref d rm HR4.out a b, HIA.out, HIB.out, HZA.out, HZB.out, HSG.out]; show (if (oddV d [a, b] true).2.2 = true then ((oddV d [a, b] true).1, (oddV d [a, b] true).2.1) else (infV d s, 0)) = _; rw [ho]
        have HO := Lib.hid ho; clear ho
        go_enter Try.func18, Try.ntmps18
        go_wp2_with fail
        refine (right_s sz d hs rm h5 h3 _).mono ?_; rintro e0 w1 ⟨rfl, bq⟩
        have hbw := bq; clear bq
        go_wp2_with fail
        refine (minused_s sz d hs a ha _).mono ?_; rintro e0 wq ⟨rfl, bq⟩
        replace hbw := hbw.trans (bq.mono hbw.size)
        clear bq
        go_wp2_with fail
        refine (minused_s sz d hs b hb _).mono ?_; rintro e0 wq ⟨rfl, bq⟩
        replace hbw := hbw.trans (bq.mono hbw.size)
        clear bq
        go_wp2_with fail
        have HL := Lib.hid (lst_2 wq a b 22)
        have hbw := hbw.trans ((below_one wq (Obj.cells #[.int .u64 a, .int .u64 b] 22)).mono hbw.size)
        refine (inf_s sz d hs a ha _).mono ?_; rintro e0 wq ⟨rfl, bq⟩
        rw [HIA.out]
        replace HL := Lib.hid (HL.out.below bq)
        replace hbw := hbw.trans (bq.mono hbw.size); clear bq
        go_wp2_with fail
        refine (zero_s sz d hs b hb _).mono ?_; rintro e0 wq ⟨rfl, bq⟩
        rw [HZB.out]
        replace HL := Lib.hid (HL.out.below bq)
        replace hbw := hbw.trans (bq.mono hbw.size)
        clear bq
        go_wp2_with fail
        refine (odd_l sz d hs _ [a, b] _ _ _ HL.out rfl (by simp) (get2 ha.out hb.out)).mono ?_; rintro e0 w9 ⟨rfl, bq⟩
        rw [HO.out]
        replace hbw := hbw.trans (bq.mono hbw.size); clear bq HL
        cases is
        · have HF : Hid (mulF d rm (readN d a) (readN d b) = (infV d s, 0)) := HM.out
          go_wp2_with fail
          refine (inf_s sz d hs a ha _).mono ?_; rintro e0 wq ⟨rfl, bq⟩
          rw [HIA.out]
          replace hbw := hbw.trans (bq.mono hbw.size)
          clear bq
          go_wp2_with fail
          rw [minus_xor, HSG.out]
          refine (infinity_s sz d hs s _).mono ?_; rintro e0 wq ⟨rfl, bq⟩
          replace hbw := hbw.trans (bq.mono hbw.size)
          clear bq
          go_wp2_with fail
          go_ret2
          exact retP_mk (by rw [HF.out]) (by rw [HF.out]) hbw
        · have HF : Hid (mulF d rm (readN d a) (readN d b) = (r, f)) := HM.out
          go_wp2_with fail
          go_ret2
          exact retP_mk (by rw [HF.out]) (by rw [HF.out]) hbw
    · have hzB := inf_zero d b hiB
      have HIB := Lib.hid hiB; have HZB := Lib.hid hzB; clear hiB hzB
      obtain ⟨r, f, is, ho⟩ : ∃ r f is, oddV d [a, b] false = (r, f, is) := ⟨_, _, _, rfl⟩
      have HM : Hid (mulF d rm (readN d a) (readN d b) = if is then (r, f) else (infV d s, 0)) := by show _ = _; rw [mul_ref d rm HR4.out a b, HIA.out, HIB.out, HZA.out, HZB.out, HSG.out]; show (if (oddV d [a, b] false).2.2 = true then ((oddV d [a, b] false).1, (oddV d [a, b] false).2.1) else (infV d s, 0)) = _; rw [ho]
      have HO := Lib.hid ho; clear ho
      go_enter Try.func18, Try.ntmps18
      go_wp2_with fail
      refine (right_s sz d hs rm h5 h3 _).mono ?_; rintro e0 w1 ⟨rfl, bq⟩
      have hbw := bq; clear bq
      go_wp2_with fail
      refine (minused_s sz d hs a ha _).mono ?_; rintro e0 wq ⟨rfl, bq⟩
      replace hbw := hbw.trans (bq.mono hbw.size)
      clear bq
      go_wp2_with fail
      refine (minused_s sz d hs b hb _).mono ?_; rintro e0 wq ⟨rfl, bq⟩
      replace hbw := hbw.trans (bq.mono hbw.size)
      clear bq
      go_wp2_with fail
      have HL := Lib.hid (lst_2 wq a b 22)
      have hbw := hbw.trans ((below_one wq (Obj.cells #[.int .u64 a, .int .u64 b] 22)).mono hbw.size)
      refine (inf_s sz d hs a ha _).mono ?_; rintro e0 wq ⟨rfl, bq⟩
      rw [HIA.out]
      replace HL := Lib.hid (HL.out.below bq)
      replace hbw := hbw.trans (bq.mono hbw.size); clear bq
      go_wp2_with fail
      refine (zero_s sz d hs b hb _).mono ?_; rintro e0 wq ⟨rfl, bq⟩
      rw [HZB.out]
      replace HL := Lib.hid (HL.out.below bq)
      replace hbw := hbw.trans (bq.mono hbw.size)
      clear bq
      go_wp2_with fail
      refine (zero_s sz d hs a ha _).mono ?_; rintro e0 wq ⟨rfl, bq⟩
      rw [HZA.out]
      replace HL := Lib.hid (HL.out.below bq)
      replace hbw := hbw.trans (bq.mono hbw.size)
      clear bq
      go_wp2_with fail
      refine (odd_l sz d hs _ [a, b] _ _ _ HL.out rfl (by simp) (get2 ha.out hb.out)).mono ?_; rintro e0 w9 ⟨rfl, bq⟩
      rw [HO.out]
      replace hbw := hbw.trans (bq.mono hbw.size); clear bq HL
      cases is
      · have HF : Hid (mulF d rm (readN d a) (readN d b) = (infV d s, 0)) := HM.out
        go_wp2_with fail
        refine (inf_s sz d hs a ha _).mono ?_; rintro e0 wq ⟨rfl, bq⟩
        rw [HIA.out]
        replace hbw := hbw.trans (bq.mono hbw.size)
        clear bq
        go_wp2_with fail
        rw [minus_xor, HSG.out]
        refine (infinity_s sz d hs s _).mono ?_; rintro e0 wq ⟨rfl, bq⟩
        replace hbw := hbw.trans (bq.mono hbw.size)
        clear bq
        go_wp2_with fail
        go_ret2
        exact retP_mk (by rw [HF.out]) (by rw [HF.out]) hbw
      · have HF : Hid (mulF d rm (readN d a) (readN d b) = (r, f)) := HM.out
        go_wp2_with fail
        go_ret2
        exact retP_mk (by rw [HF.out]) (by rw [HF.out]) hbw
end Go.Proofs.Ythjdeopfbjmmeaa
