/- The reference's Fma. -/
import Derived.Test.YthjdeopfbjmmeaaK19
import Derived.Deep.RegionHeld3
namespace Go.Proofs.Ythjdeopfbjmmeaa
open Go.ChangeShapes Go.WideShapes Go.ChangeAt Go.RowKit
set_option linter.unusedVariables false
set_option linter.unusedSimpArgs false
theorem minus_s (d : Bool) (c : Nat) (s : Bool) : (!(decide (c / signB d % 2 = 1) == s)) = (sgB d c != s) := rfl
theorem inf_nan (d : Bool) (a : Nat) (h : isInf d a = true) : nanB d a = false := by
  obtain ⟨hc, -⟩ := class_cases d a
  rcases hc with ⟨-, h1, -⟩ | ⟨-, -, h2, -⟩ | ⟨-, -, h2, -⟩ | ⟨-, -, h2, -⟩ | ⟨-, -, h2, -⟩ <;> first | exact h1 | (rw [h2] at h; cases h)
theorem zero_nan (d : Bool) (a : Nat) (h : isZero d a = true) : nanB d a = false := by
  obtain ⟨hc, -⟩ := class_cases d a
  rcases hc with ⟨-, h1, -, -, -⟩ | ⟨-, h1, -, h3, -⟩ | ⟨-, h1, -, h3, -⟩ | ⟨-, h1, -, h3, -⟩ | ⟨-, h1, -, h3, -⟩ <;> first | exact h1 | (rw [h3] at h; cases h)
theorem odd_inv {d : Bool} {L : List Nat} {r : Nat} {f : Int} (h : oddV d L true = (r, f, false)) : False := by
  unfold oddV at h
  rw [Bool.true_or, if_pos rfl] at h
  cases h
set_option maxRecDepth 100000 in
set_option maxHeartbeats 16000000 in
theorem Fma_r (sz : Int) (d : Bool) (hs : Hid (Sz sz d)) (rm : Int) (h5 : 0 ≤ rm) (h3 : rm < 5) (a b c : Nat) (ha : Hid (a < 18446744073709551616)) (hb : Hid (b < 18446744073709551616)) (hc : Hid (c < 18446744073709551616)) (w : World) :
    Calls Try.prog 24 #[.int .i64 sz, .int .i64 rm, .int .u64 a, .int .u64 b, .int .u64 c] w (RetP (fmaF d rm (readN d a) (readN d b) (readN d c)) w) := by
  obtain ⟨s, hsg⟩ : ∃ s, s = (sgB d a != sgB d b) := ⟨_, rfl⟩
  have HSG : Hid ((sgB d a != sgB d b) = s) := hsg.symm
  clear hsg
  cases hia : isInf d a
  · have HIA := Lib.hid hia; clear hia
    cases hza : isZero d a
    · have HZA := Lib.hid hza; clear hza
      cases hib : isInf d b
      · have HIB := Lib.hid hib; clear hib
        obtain ⟨r, f, is, ho⟩ : ∃ r f is, oddV d [a, b, c] false = (r, f, is) := ⟨_, _, _, rfl⟩
        have HM : Hid (fmaF d rm (readN d a) (readN d b) (readN d c) = if is then (r, f) else (if isInf d c = true then (maskB d c, 0) else sumR d rm (prN d a b) (ofN d c))) := by show _ = _; rw [fma_ref d rm a b c hc.out, HIA.out, HIB.out, HZA.out]; show (if (oddV d [a, b, c] false).2.2 = true then ((oddV d [a, b, c] false).1, (oddV d [a, b, c] false).2.1) else (if isInf d c = true then (maskB d c, 0) else sumR d rm (prN d a b) (ofN d c))) = _; rw [ho]
        have HO := Lib.hid ho; clear ho
        go_enter Try.func24, Try.ntmps24
        go_wp2_with fail
        refine (right_s sz d hs rm h5 h3 _).mono ?_; rintro e0 w1 ⟨rfl, bq⟩
        have hbw := bq; clear bq
        go_wp2_with fail
        refine (minused_s sz d hs a ha _).mono ?_; rintro e0 wq ⟨rfl, bq⟩
        replace hbw := hbw.trans (bq.mono hbw.size)
        clear bq
        go_wp2_with fail
        refine (minused_s sz d hs b hb _).mono ?_; rintro e0 wq ⟨rfl, bq⟩
        replace hbw := hbw.trans (bq.mono hbw.size)
        clear bq
        go_wp2_with fail
        rw [minus_xor, HSG.out]
        refine (inf_s sz d hs a ha _).mono ?_; rintro e0 wq ⟨rfl, bq⟩
        rw [HIA.out]
        replace hbw := hbw.trans (bq.mono hbw.size)
        clear bq
        go_wp2_with fail
        refine (zero_s sz d hs a ha _).mono ?_; rintro e0 wq ⟨rfl, bq⟩
        rw [HZA.out]
        replace hbw := hbw.trans (bq.mono hbw.size)
        clear bq
        go_wp2_with fail
        refine (inf_s sz d hs a ha _).mono ?_; rintro e0 wq ⟨rfl, bq⟩
        rw [HIA.out]
        replace hbw := hbw.trans (bq.mono hbw.size)
        clear bq
        go_wp2_with fail
        refine (inf_s sz d hs b hb _).mono ?_; rintro e0 wq ⟨rfl, bq⟩
        rw [HIB.out]
        replace hbw := hbw.trans (bq.mono hbw.size)
        clear bq
        go_wp2_with fail
        have HL := Lib.hid (lst_3 wq a b c 22)
        have hbw := hbw.trans ((below_one wq (Obj.cells #[.int .u64 a, .int .u64 b, .int .u64 c] 22)).mono hbw.size)
        refine (odd_l sz d hs _ [a, b, c] _ _ _ HL.out rfl (by simp) (get3 ha.out hb.out hc.out)).mono ?_; rintro e0 w9 ⟨rfl, bq⟩
        rw [HO.out]
        replace hbw := hbw.trans (bq.mono hbw.size); clear bq HL
        cases is
        · cases hic : isInf d c
          · have HIC := Lib.hid hic; clear hic
            go_wp2_with fail
            refine (inf_s sz d hs c hc _).mono ?_; rintro e0 wq ⟨rfl, bq⟩
            rw [HIC.out]
            replace hbw := hbw.trans (bq.mono hbw.size)
            clear bq
            have HF : Hid (fmaF d rm (readN d a) (readN d b) (readN d c) = sumR d rm (prN d a b) (ofN d c)) := by show _ = _; rw [HM.out, HIC.out]; rfl
            have HCA := Lib.hid (ofN_finQ d a (cls_of (odd_no HO.out a (by simp)) HIA.out))
            have HCB := Lib.hid (ofN_finQ d b (cls_of (odd_no HO.out b (by simp)) HIB.out))
            have HCC := Lib.hid (ofN_finQ d c (cls_of (odd_no HO.out c (by simp)) HIC.out))
            go_wp2_with fail
            refine (of_s sz d hs a ha _).mono ?_; rintro e0 w10 ⟨g1, n1, p1, rfl, hA1, bq⟩
            replace hbw := hbw.trans (bq.mono hbw.size); clear bq
            have X1 := Lib.hid (atN_new w10 (decide (a / signB d % 2 = 1)) g1 n1 p1 (ofE d a) 57)
            have hA2 := Lib.hid (big_below hA1.out (below_one w10 (Obj.cells #[.bool (decide (a / signB d % 2 = 1)), .slice (some ⟨g1, 0, none⟩) n1 p1, .int .i64 (ofE d a)] 57)) (Nat.le_refl _))
            replace hbw := hbw.trans ((below_one w10 (Obj.cells #[.bool (decide (a / signB d % 2 = 1)), .slice (some ⟨g1, 0, none⟩) n1 p1, .int .i64 (ofE d a)] 57)).mono hbw.size)
            go_wp2_with fail
            refine (of_s sz d hs b hb _).mono ?_; rintro e0 w11 ⟨g2, n2, p2, rfl, hB1, bq⟩
            replace X1 := Lib.hid (X1.out.below bq)
            replace hA2 := Lib.hid (big_below hA2.out bq (Nat.le_refl _))
            replace hbw := hbw.trans (bq.mono hbw.size); clear bq hA1
            go_upto_region 15 with fail
            rename_i K0 k0
            have Y1 := Lib.hid (atN_new w11 (decide (b / signB d % 2 = 1)) g2 n2 p2 (ofE d b) 57)
            have eq1 := below_one w11 (Obj.cells #[.bool (decide (b / signB d % 2 = 1)), .slice (some ⟨g2, 0, none⟩) n2 p2, .int .i64 (ofE d b)] 57)
            replace X1 := Lib.hid (X1.out.below eq1)
            replace hA2 := Lib.hid (big_below hA2.out eq1 (Nat.le_refl _))
            have hB2 := Lib.hid (big_below hB1.out eq1 (Nat.le_refl _))
            replace hbw := hbw.trans (eq1.mono hbw.size); clear eq1 hB1
            have X2 : Hid (AtN (w11.alloc (Obj.cells #[.bool (decide (b / signB d % 2 = 1)), .slice (some ⟨g2, 0, none⟩) n2 p2, .int .i64 (ofE d b)] 57)) w10.heap.size (decide (a / signB d % 2 = 1)) g1 n1 p1 (ofE d a)) := X1
            clear X1
            generalize (w11.alloc (Obj.cells #[Value.bool (decide (b / signB d % 2 = 1)), Value.slice (some ⟨g2, 0, none⟩) n2 p2, Value.int .i64 (ofE d b)] 57)) = w12 at *
            generalize w10.heap.size = B1 at *
            generalize w11.heap.size = B2 at *
            have HB := Lib.hid hbw; have HB2 : Hid (Below w.heap.size w w12.drew) := HB.out.drew; clear hbw
            have q1 := big_len hA2.out (m := 2) (digits_of HCA.out.2.1 (by decide))
            have q2 := big_len hB2.out (m := 2) (digits_of HCB.out.2.1 (by decide))
            have HPL : Hid (ofM d a * ofM d b < 2 ^ 107) := by show _ < _; have := Nat.mul_lt_mul'' HCA.out.2.1 HCB.out.2.1; rw [← Nat.pow_add] at this; exact Nat.lt_of_lt_of_le this (Nat.pow_le_pow_right (by decide) (by decide))
            have HCL : Hid (ofM d c < 2 ^ 107) := Lib.hid (Nat.lt_of_lt_of_le HCC.out.2.1 (Nat.pow_le_pow_right (by decide) (by decide)))
            have ee1 : -2200 ≤ ofE d a + ofE d b := by have := HCA.out.2.2.1; have := HCB.out.2.2.1; omega
            have ee2 : ofE d a + ofE d b ≤ 2000 := by have := HCA.out.2.2.2; have := HCB.out.2.2.2; omega
            have ec1 : -2200 ≤ ofE d c := by have := HCC.out.2.2.1; omega
            have ec2 : ofE d c ≤ 2000 := by have := HCC.out.2.2.2; omega
            have ew : IntKind.i64.wrap (ofE d a + ofE d b) = ofE d a + ofE d b := IntWalk.i64_in _ (by omega)
            have x1 := X2.out.2.2.1; have x2 := X2.out.2.2.2; have y1 := Y1.out.2.2.1; have y2 := Y1.out.2.2.2
            go_region_held3 (fun w' => w'.cell? ⟨B1, 1, none⟩ = some (.slice (some ⟨g1, 0, none⟩) n1 p1) ∧ w'.cell? ⟨B1, 2, none⟩ = some (.int .i64 (ofE d a)) ∧ w'.cell? ⟨B2, 1, none⟩ = some (.slice (some ⟨g2, 0, none⟩) n2 p2) ∧ w'.cell? ⟨B2, 2, none⟩ = some (.int .i64 (ofE d b)) ∧ Hid (AtN w' B1 (decide (a / signB d % 2 = 1)) g1 n1 p1 (ofE d a)) ∧ Hid (AtN w' B2 (decide (b / signB d % 2 = 1)) g2 n2 p2 (ofE d b)) ∧ Hid (IsBig w' g1 n1 p1 (ofM d a)) ∧ Hid (IsBig w' g2 n2 p2 (ofM d b)) ∧ Hid (Below w.heap.size w w')) (refine ⟨?_, ?_, ?_, ?_, ?_, ?_, ?_, ?_, ?_⟩ <;> first | assumption | (go_keep; done)) (first | (go_at_call 50; obtain ⟨-, -, -, -, t1, t2, t3, t4, t5⟩ := ‹_ ∧ _ ∧ _ ∧ _ ∧ Hid (AtN _ B1 _ _ _ _ _) ∧ _›; refine (times_c g1 n1 p1 (ofM d a) g2 n2 p2 (ofM d b) _ (raw_hid t3) (raw_hid t4) (by omega) (by omega)).mono ?_; rintro e3 w13 ⟨g3, n3, p3, rfl, hP, b3⟩; have s1 := atN_hb t1 b3; have s2 := atN_hb t2 b3; have s3 := big_hb t3 b3; have s4 := big_hb t4 b3; have s5 := below_hb t5 b3; clear t1 t2 t3 t4 t5; have z1 := s1.out.2.2.1; have z2 := s1.out.2.2.2; have z3 := s2.out.2.2.1; have z4 := s2.out.2.2.2) | (go_at_call 40; obtain ⟨-, -, -, -, t1, t2, t3, t4, t5⟩ := ‹_ ∧ _ ∧ _ ∧ _ ∧ Hid (AtN _ B1 _ _ _ _ _) ∧ _›; refine (of_s sz d hs c hc _).mono ?_; rintro e4 w14 ⟨g4, n4, p4, rfl, hQ, b4⟩; have hP4 := big_hb hP b4; have s1 := atN_hb t1 b4; have s2 := atN_hb t2 b4; have s3 := big_hb t3 b4; have s4 := big_hb t4 b4; have s5 := below_hb t5 b4; clear t1 t2 t3 t4 t5; have z1 := s1.out.2.2.1; have z2 := s1.out.2.2.2; have z3 := s2.out.2.2.1; have z4 := s2.out.2.2.2) | (go_at_call 39; obtain ⟨-, -, -, -, t1, t2, t3, t4, t5⟩ := ‹_ ∧ _ ∧ _ ∧ _ ∧ Hid (AtN _ B1 _ _ _ _ _) ∧ _›; refine (sum_s _ sz d hs rm h5 h3 (prN d a b) (ofN d c) s _ (ofE d a + ofE d b) (ofE d c) g3 n3 p3 g4 n4 p4 (ofM d a * ofM d b) (ofM d c) (Lib.hid ⟨HSG.out, rfl, rfl⟩) (Lib.hid ⟨rfl, rfl, rfl⟩) hP4 hQ HPL HCL ee1 ee2 ec1 ec2).mono ?_; rintro e5 w15 ⟨rfl, b5⟩; have s1 := atN_hb t1 b5; have s2 := atN_hb t2 b5; have s3 := big_hb t3 b5; have s4 := big_hb t4 b5; have s5 := below_hb t5 b5; clear t1 t2 t3 t4 t5; have z1 := s1.out.2.2.1; have z2 := s1.out.2.2.2; have z3 := s2.out.2.2.1; have z4 := s2.out.2.2.2))
            refine k0 _ _ ?_
            go_wp2_with fail
            go_ret2
            exact retP_mk (by rw [HF.out]) (by rw [HF.out]) s5.out
          · have HIC := Lib.hid hic; clear hic
            go_wp2_with fail
            refine (inf_s sz d hs c hc _).mono ?_; rintro e0 wq ⟨rfl, bq⟩
            rw [HIC.out]
            replace hbw := hbw.trans (bq.mono hbw.size)
            clear bq
            have HF : Hid (fmaF d rm (readN d a) (readN d b) (readN d c) = (maskB d c, 0)) := by show _ = _; rw [HM.out, HIC.out]; rfl
            go_wp2_with fail
            refine (mask_s sz d hs c hc _).mono ?_; rintro e0 wq ⟨rfl, bq⟩
            replace hbw := hbw.trans (bq.mono hbw.size)
            clear bq
            go_wp2_with fail
            go_ret2
            exact retP_mk (by rw [HF.out]) (by rw [HF.out]) hbw
        · have HF : Hid (fmaF d rm (readN d a) (readN d b) (readN d c) = (r, f)) := HM.out
          go_wp2_with fail
          go_ret2
          exact retP_mk (by rw [HF.out]) (by rw [HF.out]) hbw
      · have HZB := Lib.hid (inf_zero d b hib); have HNB := Lib.hid (inf_nan d b hib); have HIB := Lib.hid hib; clear hib
        cases hna : nanB d a
        · have HNA := Lib.hid hna; clear hna
          cases hic : isInf d c
          · have HIC := Lib.hid hic; clear hic
            obtain ⟨r, f, is, ho⟩ : ∃ r f is, oddV d [a, b, c] false = (r, f, is) := ⟨_, _, _, rfl⟩
            have HM : Hid (fmaF d rm (readN d a) (readN d b) (readN d c) = if is then (r, f) else (infV d s, 0)) := by show _ = _; rw [fma_ref d rm a b c hc.out, HIA.out, HIB.out, HZA.out, HZB.out, HNA.out, HNB.out, HIC.out, HSG.out]; show (if (oddV d [a, b, c] false).2.2 = true then ((oddV d [a, b, c] false).1, (oddV d [a, b, c] false).2.1) else (infV d s, 0)) = _; rw [ho]
            have HO := Lib.hid ho; clear ho
            go_enter Try.func24, Try.ntmps24
            go_wp2_with fail
            refine (right_s sz d hs rm h5 h3 _).mono ?_; rintro e0 w1 ⟨rfl, bq⟩
            have hbw := bq; clear bq
            go_wp2_with fail
            refine (minused_s sz d hs a ha _).mono ?_; rintro e0 wq ⟨rfl, bq⟩
            replace hbw := hbw.trans (bq.mono hbw.size)
            clear bq
            go_wp2_with fail
            refine (minused_s sz d hs b hb _).mono ?_; rintro e0 wq ⟨rfl, bq⟩
            replace hbw := hbw.trans (bq.mono hbw.size)
            clear bq
            go_wp2_with fail
            rw [minus_xor, HSG.out]
            refine (inf_s sz d hs a ha _).mono ?_; rintro e0 wq ⟨rfl, bq⟩
            rw [HIA.out]
            replace hbw := hbw.trans (bq.mono hbw.size)
            clear bq
            go_wp2_with fail
            refine (zero_s sz d hs a ha _).mono ?_; rintro e0 wq ⟨rfl, bq⟩
            rw [HZA.out]
            replace hbw := hbw.trans (bq.mono hbw.size)
            clear bq
            go_wp2_with fail
            refine (inf_s sz d hs a ha _).mono ?_; rintro e0 wq ⟨rfl, bq⟩
            rw [HIA.out]
            replace hbw := hbw.trans (bq.mono hbw.size)
            clear bq
            go_wp2_with fail
            refine (inf_s sz d hs b hb _).mono ?_; rintro e0 wq ⟨rfl, bq⟩
            rw [HIB.out]
            replace hbw := hbw.trans (bq.mono hbw.size)
            clear bq
            go_wp2_with fail
            refine (nan_s sz d hs a ha _).mono ?_; rintro e0 wq ⟨rfl, bq⟩
            rw [HNA.out]
            replace hbw := hbw.trans (bq.mono hbw.size)
            clear bq
            go_wp2_with fail
            refine (nan_s sz d hs b hb _).mono ?_; rintro e0 wq ⟨rfl, bq⟩
            rw [HNB.out]
            replace hbw := hbw.trans (bq.mono hbw.size)
            clear bq
            go_wp2_with fail
            have HL := Lib.hid (lst_3 wq a b c 22)
            have hbw := hbw.trans ((below_one wq (Obj.cells #[.int .u64 a, .int .u64 b, .int .u64 c] 22)).mono hbw.size)
            refine (inf_s sz d hs c hc _).mono ?_; rintro e0 wq ⟨rfl, bq⟩
            rw [HIC.out]
            replace HL := Lib.hid (HL.out.below bq)
            replace hbw := hbw.trans (bq.mono hbw.size); clear bq
            go_wp2_with fail
            refine (odd_l sz d hs _ [a, b, c] _ _ _ HL.out rfl (by simp) (get3 ha.out hb.out hc.out)).mono ?_; rintro e0 w9 ⟨rfl, bq⟩
            rw [HO.out]
            replace hbw := hbw.trans (bq.mono hbw.size); clear bq HL
            cases is
            · have HF : Hid (fmaF d rm (readN d a) (readN d b) (readN d c) = (infV d s, 0)) := HM.out
              go_wp2_with fail
              refine (infinity_s sz d hs s _).mono ?_; rintro e0 wq ⟨rfl, bq⟩
              replace hbw := hbw.trans (bq.mono hbw.size)
              clear bq
              go_wp2_with fail
              go_ret2
              exact retP_mk (by rw [HF.out]) (by rw [HF.out]) hbw
            · have HF : Hid (fmaF d rm (readN d a) (readN d b) (readN d c) = (r, f)) := HM.out
              go_wp2_with fail
              go_ret2
              exact retP_mk (by rw [HF.out]) (by rw [HF.out]) hbw
          · have HIC := Lib.hid hic; clear hic
            cases hsc : (sgB d c != s)
            · have HSC := Lib.hid hsc; clear hsc
              obtain ⟨r, f, is, ho⟩ : ∃ r f is, oddV d [a, b, c] false = (r, f, is) := ⟨_, _, _, rfl⟩
              have HM : Hid (fmaF d rm (readN d a) (readN d b) (readN d c) = if is then (r, f) else (infV d s, 0)) := by show _ = _; rw [fma_ref d rm a b c hc.out, HIA.out, HIB.out, HZA.out, HZB.out, HNA.out, HNB.out, HIC.out, HSG.out]; show (if (oddV d [a, b, c] (sgB d c != s)).2.2 = true then ((oddV d [a, b, c] (sgB d c != s)).1, (oddV d [a, b, c] (sgB d c != s)).2.1) else (infV d s, 0)) = _; rw [HSC.out, ho]
              have HO := Lib.hid ho; clear ho
              go_enter Try.func24, Try.ntmps24
              go_wp2_with fail
              refine (right_s sz d hs rm h5 h3 _).mono ?_; rintro e0 w1 ⟨rfl, bq⟩
              have hbw := bq; clear bq
              go_wp2_with fail
              refine (minused_s sz d hs a ha _).mono ?_; rintro e0 wq ⟨rfl, bq⟩
              replace hbw := hbw.trans (bq.mono hbw.size)
              clear bq
              go_wp2_with fail
              refine (minused_s sz d hs b hb _).mono ?_; rintro e0 wq ⟨rfl, bq⟩
              replace hbw := hbw.trans (bq.mono hbw.size)
              clear bq
              go_wp2_with fail
              rw [minus_xor, HSG.out]
              refine (inf_s sz d hs a ha _).mono ?_; rintro e0 wq ⟨rfl, bq⟩
              rw [HIA.out]
              replace hbw := hbw.trans (bq.mono hbw.size)
              clear bq
              go_wp2_with fail
              refine (zero_s sz d hs a ha _).mono ?_; rintro e0 wq ⟨rfl, bq⟩
              rw [HZA.out]
              replace hbw := hbw.trans (bq.mono hbw.size)
              clear bq
              go_wp2_with fail
              refine (inf_s sz d hs a ha _).mono ?_; rintro e0 wq ⟨rfl, bq⟩
              rw [HIA.out]
              replace hbw := hbw.trans (bq.mono hbw.size)
              clear bq
              go_wp2_with fail
              refine (inf_s sz d hs b hb _).mono ?_; rintro e0 wq ⟨rfl, bq⟩
              rw [HIB.out]
              replace hbw := hbw.trans (bq.mono hbw.size)
              clear bq
              go_wp2_with fail
              refine (nan_s sz d hs a ha _).mono ?_; rintro e0 wq ⟨rfl, bq⟩
              rw [HNA.out]
              replace hbw := hbw.trans (bq.mono hbw.size)
              clear bq
              go_wp2_with fail
              refine (nan_s sz d hs b hb _).mono ?_; rintro e0 wq ⟨rfl, bq⟩
              rw [HNB.out]
              replace hbw := hbw.trans (bq.mono hbw.size)
              clear bq
              go_wp2_with fail
              have HL := Lib.hid (lst_3 wq a b c 22)
              have hbw := hbw.trans ((below_one wq (Obj.cells #[.int .u64 a, .int .u64 b, .int .u64 c] 22)).mono hbw.size)
              refine (inf_s sz d hs c hc _).mono ?_; rintro e0 wq ⟨rfl, bq⟩
              rw [HIC.out]
              replace HL := Lib.hid (HL.out.below bq)
              replace hbw := hbw.trans (bq.mono hbw.size); clear bq
              go_wp2_with fail
              refine (minused_s sz d hs c hc _).mono ?_; rintro e0 wq ⟨rfl, bq⟩
              replace HL := Lib.hid (HL.out.below bq)
              replace hbw := hbw.trans (bq.mono hbw.size); clear bq
              go_wp2_with fail
              rw [minus_s, HSC.out]
              refine (odd_l sz d hs _ [a, b, c] _ _ _ HL.out rfl (by simp) (get3 ha.out hb.out hc.out)).mono ?_; rintro e0 w9 ⟨rfl, bq⟩
              rw [HO.out]
              replace hbw := hbw.trans (bq.mono hbw.size); clear bq HL
              cases is
              · have HF : Hid (fmaF d rm (readN d a) (readN d b) (readN d c) = (infV d s, 0)) := HM.out
                go_wp2_with fail
                refine (infinity_s sz d hs s _).mono ?_; rintro e0 wq ⟨rfl, bq⟩
                replace hbw := hbw.trans (bq.mono hbw.size)
                clear bq
                go_wp2_with fail
                go_ret2
                exact retP_mk (by rw [HF.out]) (by rw [HF.out]) hbw
              · have HF : Hid (fmaF d rm (readN d a) (readN d b) (readN d c) = (r, f)) := HM.out
                go_wp2_with fail
                go_ret2
                exact retP_mk (by rw [HF.out]) (by rw [HF.out]) hbw
            · have HSC := Lib.hid hsc; clear hsc
              obtain ⟨r, f, is, ho⟩ : ∃ r f is, oddV d [a, b, c] true = (r, f, is) := ⟨_, _, _, rfl⟩
              have HM : Hid (fmaF d rm (readN d a) (readN d b) (readN d c) = (r, f)) := by show _ = _; rw [fma_ref d rm a b c hc.out, HIA.out, HIB.out, HZA.out, HZB.out, HNA.out, HNB.out, HIC.out, HSG.out]; show (if (oddV d [a, b, c] (sgB d c != s)).2.2 = true then ((oddV d [a, b, c] (sgB d c != s)).1, (oddV d [a, b, c] (sgB d c != s)).2.1) else _) = _; rw [HSC.out]; cases is; exact (odd_inv ho).elim; rw [ho]; rfl
              have HO := Lib.hid ho; clear ho
              go_enter Try.func24, Try.ntmps24
              go_wp2_with fail
              refine (right_s sz d hs rm h5 h3 _).mono ?_; rintro e0 w1 ⟨rfl, bq⟩
              have hbw := bq; clear bq
              go_wp2_with fail
              refine (minused_s sz d hs a ha _).mono ?_; rintro e0 wq ⟨rfl, bq⟩
              replace hbw := hbw.trans (bq.mono hbw.size)
              clear bq
              go_wp2_with fail
              refine (minused_s sz d hs b hb _).mono ?_; rintro e0 wq ⟨rfl, bq⟩
              replace hbw := hbw.trans (bq.mono hbw.size)
              clear bq
              go_wp2_with fail
              rw [minus_xor, HSG.out]
              refine (inf_s sz d hs a ha _).mono ?_; rintro e0 wq ⟨rfl, bq⟩
              rw [HIA.out]
              replace hbw := hbw.trans (bq.mono hbw.size)
              clear bq
              go_wp2_with fail
              refine (zero_s sz d hs a ha _).mono ?_; rintro e0 wq ⟨rfl, bq⟩
              rw [HZA.out]
              replace hbw := hbw.trans (bq.mono hbw.size)
              clear bq
              go_wp2_with fail
              refine (inf_s sz d hs a ha _).mono ?_; rintro e0 wq ⟨rfl, bq⟩
              rw [HIA.out]
              replace hbw := hbw.trans (bq.mono hbw.size)
              clear bq
              go_wp2_with fail
              refine (inf_s sz d hs b hb _).mono ?_; rintro e0 wq ⟨rfl, bq⟩
              rw [HIB.out]
              replace hbw := hbw.trans (bq.mono hbw.size)
              clear bq
              go_wp2_with fail
              refine (nan_s sz d hs a ha _).mono ?_; rintro e0 wq ⟨rfl, bq⟩
              rw [HNA.out]
              replace hbw := hbw.trans (bq.mono hbw.size)
              clear bq
              go_wp2_with fail
              refine (nan_s sz d hs b hb _).mono ?_; rintro e0 wq ⟨rfl, bq⟩
              rw [HNB.out]
              replace hbw := hbw.trans (bq.mono hbw.size)
              clear bq
              go_wp2_with fail
              have HL := Lib.hid (lst_3 wq a b c 22)
              have hbw := hbw.trans ((below_one wq (Obj.cells #[.int .u64 a, .int .u64 b, .int .u64 c] 22)).mono hbw.size)
              refine (inf_s sz d hs c hc _).mono ?_; rintro e0 wq ⟨rfl, bq⟩
              rw [HIC.out]
              replace HL := Lib.hid (HL.out.below bq)
              replace hbw := hbw.trans (bq.mono hbw.size); clear bq
              go_wp2_with fail
              refine (minused_s sz d hs c hc _).mono ?_; rintro e0 wq ⟨rfl, bq⟩
              replace HL := Lib.hid (HL.out.below bq)
              replace hbw := hbw.trans (bq.mono hbw.size); clear bq
              go_wp2_with fail
              rw [minus_s, HSC.out]
              refine (odd_l sz d hs _ [a, b, c] _ _ _ HL.out rfl (by simp) (get3 ha.out hb.out hc.out)).mono ?_; rintro e0 w9 ⟨rfl, bq⟩
              rw [HO.out]
              replace hbw := hbw.trans (bq.mono hbw.size); clear bq HL
              cases is
              · exact (odd_inv HO.out).elim
              · go_wp2_with fail
                go_ret2
                exact retP_mk (by rw [HM.out]) (by rw [HM.out]) hbw
        · have HNA := Lib.hid hna; clear hna
          obtain ⟨r, f, is, ho⟩ : ∃ r f is, oddV d [a, b, c] false = (r, f, is) := ⟨_, _, _, rfl⟩
          have HM : Hid (fmaF d rm (readN d a) (readN d b) (readN d c) = if is then (r, f) else (if isInf d c = true then (maskB d c, 0) else sumR d rm (prN d a b) (ofN d c))) := by show _ = _; rw [fma_ref d rm a b c hc.out, HIA.out, HIB.out, HZA.out, HZB.out, HNA.out, HNB.out]; show (if (oddV d [a, b, c] false).2.2 = true then ((oddV d [a, b, c] false).1, (oddV d [a, b, c] false).2.1) else (if isInf d c = true then (maskB d c, 0) else sumR d rm (prN d a b) (ofN d c))) = _; rw [ho]
          have HO := Lib.hid ho; clear ho
          go_enter Try.func24, Try.ntmps24
          go_wp2_with fail
          refine (right_s sz d hs rm h5 h3 _).mono ?_; rintro e0 w1 ⟨rfl, bq⟩
          have hbw := bq; clear bq
          go_wp2_with fail
          refine (minused_s sz d hs a ha _).mono ?_; rintro e0 wq ⟨rfl, bq⟩
          replace hbw := hbw.trans (bq.mono hbw.size)
          clear bq
          go_wp2_with fail
          refine (minused_s sz d hs b hb _).mono ?_; rintro e0 wq ⟨rfl, bq⟩
          replace hbw := hbw.trans (bq.mono hbw.size)
          clear bq
          go_wp2_with fail
          rw [minus_xor, HSG.out]
          refine (inf_s sz d hs a ha _).mono ?_; rintro e0 wq ⟨rfl, bq⟩
          rw [HIA.out]
          replace hbw := hbw.trans (bq.mono hbw.size)
          clear bq
          go_wp2_with fail
          refine (zero_s sz d hs a ha _).mono ?_; rintro e0 wq ⟨rfl, bq⟩
          rw [HZA.out]
          replace hbw := hbw.trans (bq.mono hbw.size)
          clear bq
          go_wp2_with fail
          refine (inf_s sz d hs a ha _).mono ?_; rintro e0 wq ⟨rfl, bq⟩
          rw [HIA.out]
          replace hbw := hbw.trans (bq.mono hbw.size)
          clear bq
          go_wp2_with fail
          refine (inf_s sz d hs b hb _).mono ?_; rintro e0 wq ⟨rfl, bq⟩
          rw [HIB.out]
          replace hbw := hbw.trans (bq.mono hbw.size)
          clear bq
          go_wp2_with fail
          refine (nan_s sz d hs a ha _).mono ?_; rintro e0 wq ⟨rfl, bq⟩
          rw [HNA.out]
          replace hbw := hbw.trans (bq.mono hbw.size)
          clear bq
          go_wp2_with fail
          have HL := Lib.hid (lst_3 wq a b c 22)
          have hbw := hbw.trans ((below_one wq (Obj.cells #[.int .u64 a, .int .u64 b, .int .u64 c] 22)).mono hbw.size)
          refine (odd_l sz d hs _ [a, b, c] _ _ _ HL.out rfl (by simp) (get3 ha.out hb.out hc.out)).mono ?_; rintro e0 w9 ⟨rfl, bq⟩
          rw [HO.out]
          replace hbw := hbw.trans (bq.mono hbw.size); clear bq HL
          cases is
          · exact absurd (odd_no HO.out a (by simp)) (by rw [HNA.out]; decide)
          · have HF : Hid (fmaF d rm (readN d a) (readN d b) (readN d c) = (r, f)) := HM.out
            go_wp2_with fail
            go_ret2
            exact retP_mk (by rw [HF.out]) (by rw [HF.out]) hbw
    · have HZA := Lib.hid hza; clear hza
      cases hib : isInf d b
      · have HIB := Lib.hid hib; clear hib
        obtain ⟨r, f, is, ho⟩ : ∃ r f is, oddV d [a, b, c] false = (r, f, is) := ⟨_, _, _, rfl⟩
        have HM : Hid (fmaF d rm (readN d a) (readN d b) (readN d c) = if is then (r, f) else (if isInf d c = true then (maskB d c, 0) else sumR d rm (prN d a b) (ofN d c))) := by show _ = _; rw [fma_ref d rm a b c hc.out, HIA.out, HIB.out, HZA.out]; show (if (oddV d [a, b, c] false).2.2 = true then ((oddV d [a, b, c] false).1, (oddV d [a, b, c] false).2.1) else (if isInf d c = true then (maskB d c, 0) else sumR d rm (prN d a b) (ofN d c))) = _; rw [ho]
        have HO := Lib.hid ho; clear ho
        go_enter Try.func24, Try.ntmps24
        go_wp2_with fail
        refine (right_s sz d hs rm h5 h3 _).mono ?_; rintro e0 w1 ⟨rfl, bq⟩
        have hbw := bq; clear bq
        go_wp2_with fail
        refine (minused_s sz d hs a ha _).mono ?_; rintro e0 wq ⟨rfl, bq⟩
        replace hbw := hbw.trans (bq.mono hbw.size)
        clear bq
        go_wp2_with fail
        refine (minused_s sz d hs b hb _).mono ?_; rintro e0 wq ⟨rfl, bq⟩
        replace hbw := hbw.trans (bq.mono hbw.size)
        clear bq
        go_wp2_with fail
        rw [minus_xor, HSG.out]
        refine (inf_s sz d hs a ha _).mono ?_; rintro e0 wq ⟨rfl, bq⟩
        rw [HIA.out]
        replace hbw := hbw.trans (bq.mono hbw.size)
        clear bq
        go_wp2_with fail
        refine (zero_s sz d hs a ha _).mono ?_; rintro e0 wq ⟨rfl, bq⟩
        rw [HZA.out]
        replace hbw := hbw.trans (bq.mono hbw.size)
        clear bq
        go_wp2_with fail
        refine (inf_s sz d hs b hb _).mono ?_; rintro e0 wq ⟨rfl, bq⟩
        rw [HIB.out]
        replace hbw := hbw.trans (bq.mono hbw.size)
        clear bq
        go_wp2_with fail
        refine (inf_s sz d hs a ha _).mono ?_; rintro e0 wq ⟨rfl, bq⟩
        rw [HIA.out]
        replace hbw := hbw.trans (bq.mono hbw.size)
        clear bq
        go_wp2_with fail
        refine (inf_s sz d hs b hb _).mono ?_; rintro e0 wq ⟨rfl, bq⟩
        rw [HIB.out]
        replace hbw := hbw.trans (bq.mono hbw.size)
        clear bq
        go_wp2_with fail
        have HL := Lib.hid (lst_3 wq a b c 22)
        have hbw := hbw.trans ((below_one wq (Obj.cells #[.int .u64 a, .int .u64 b, .int .u64 c] 22)).mono hbw.size)
        refine (odd_l sz d hs _ [a, b, c] _ _ _ HL.out rfl (by simp) (get3 ha.out hb.out hc.out)).mono ?_; rintro e0 w9 ⟨rfl, bq⟩
        rw [HO.out]
        replace hbw := hbw.trans (bq.mono hbw.size); clear bq HL
        cases is
        · cases hic : isInf d c
          · have HIC := Lib.hid hic; clear hic
            go_wp2_with fail
            refine (inf_s sz d hs c hc _).mono ?_; rintro e0 wq ⟨rfl, bq⟩
            rw [HIC.out]
            replace hbw := hbw.trans (bq.mono hbw.size)
            clear bq
            have HF : Hid (fmaF d rm (readN d a) (readN d b) (readN d c) = sumR d rm (prN d a b) (ofN d c)) := by show _ = _; rw [HM.out, HIC.out]; rfl
            have HCA := Lib.hid (ofN_finQ d a (cls_of (odd_no HO.out a (by simp)) HIA.out))
            have HCB := Lib.hid (ofN_finQ d b (cls_of (odd_no HO.out b (by simp)) HIB.out))
            have HCC := Lib.hid (ofN_finQ d c (cls_of (odd_no HO.out c (by simp)) HIC.out))
            go_wp2_with fail
            refine (of_s sz d hs a ha _).mono ?_; rintro e0 w10 ⟨g1, n1, p1, rfl, hA1, bq⟩
            replace hbw := hbw.trans (bq.mono hbw.size); clear bq
            have X1 := Lib.hid (atN_new w10 (decide (a / signB d % 2 = 1)) g1 n1 p1 (ofE d a) 57)
            have hA2 := Lib.hid (big_below hA1.out (below_one w10 (Obj.cells #[.bool (decide (a / signB d % 2 = 1)), .slice (some ⟨g1, 0, none⟩) n1 p1, .int .i64 (ofE d a)] 57)) (Nat.le_refl _))
            replace hbw := hbw.trans ((below_one w10 (Obj.cells #[.bool (decide (a / signB d % 2 = 1)), .slice (some ⟨g1, 0, none⟩) n1 p1, .int .i64 (ofE d a)] 57)).mono hbw.size)
            go_wp2_with fail
            refine (of_s sz d hs b hb _).mono ?_; rintro e0 w11 ⟨g2, n2, p2, rfl, hB1, bq⟩
            replace X1 := Lib.hid (X1.out.below bq)
            replace hA2 := Lib.hid (big_below hA2.out bq (Nat.le_refl _))
            replace hbw := hbw.trans (bq.mono hbw.size); clear bq hA1
            go_upto_region 15 with fail
            rename_i K0 k0
            have Y1 := Lib.hid (atN_new w11 (decide (b / signB d % 2 = 1)) g2 n2 p2 (ofE d b) 57)
            have eq1 := below_one w11 (Obj.cells #[.bool (decide (b / signB d % 2 = 1)), .slice (some ⟨g2, 0, none⟩) n2 p2, .int .i64 (ofE d b)] 57)
            replace X1 := Lib.hid (X1.out.below eq1)
            replace hA2 := Lib.hid (big_below hA2.out eq1 (Nat.le_refl _))
            have hB2 := Lib.hid (big_below hB1.out eq1 (Nat.le_refl _))
            replace hbw := hbw.trans (eq1.mono hbw.size); clear eq1 hB1
            have X2 : Hid (AtN (w11.alloc (Obj.cells #[.bool (decide (b / signB d % 2 = 1)), .slice (some ⟨g2, 0, none⟩) n2 p2, .int .i64 (ofE d b)] 57)) w10.heap.size (decide (a / signB d % 2 = 1)) g1 n1 p1 (ofE d a)) := X1
            clear X1
            generalize (w11.alloc (Obj.cells #[Value.bool (decide (b / signB d % 2 = 1)), Value.slice (some ⟨g2, 0, none⟩) n2 p2, Value.int .i64 (ofE d b)] 57)) = w12 at *
            generalize w10.heap.size = B1 at *
            generalize w11.heap.size = B2 at *
            have HB := Lib.hid hbw; have HB2 : Hid (Below w.heap.size w w12.drew) := HB.out.drew; clear hbw
            have q1 := big_len hA2.out (m := 2) (digits_of HCA.out.2.1 (by decide))
            have q2 := big_len hB2.out (m := 2) (digits_of HCB.out.2.1 (by decide))
            have HPL : Hid (ofM d a * ofM d b < 2 ^ 107) := by show _ < _; have := Nat.mul_lt_mul'' HCA.out.2.1 HCB.out.2.1; rw [← Nat.pow_add] at this; exact Nat.lt_of_lt_of_le this (Nat.pow_le_pow_right (by decide) (by decide))
            have HCL : Hid (ofM d c < 2 ^ 107) := Lib.hid (Nat.lt_of_lt_of_le HCC.out.2.1 (Nat.pow_le_pow_right (by decide) (by decide)))
            have ee1 : -2200 ≤ ofE d a + ofE d b := by have := HCA.out.2.2.1; have := HCB.out.2.2.1; omega
            have ee2 : ofE d a + ofE d b ≤ 2000 := by have := HCA.out.2.2.2; have := HCB.out.2.2.2; omega
            have ec1 : -2200 ≤ ofE d c := by have := HCC.out.2.2.1; omega
            have ec2 : ofE d c ≤ 2000 := by have := HCC.out.2.2.2; omega
            have ew : IntKind.i64.wrap (ofE d a + ofE d b) = ofE d a + ofE d b := IntWalk.i64_in _ (by omega)
            have x1 := X2.out.2.2.1; have x2 := X2.out.2.2.2; have y1 := Y1.out.2.2.1; have y2 := Y1.out.2.2.2
            go_region_held3 (fun w' => w'.cell? ⟨B1, 1, none⟩ = some (.slice (some ⟨g1, 0, none⟩) n1 p1) ∧ w'.cell? ⟨B1, 2, none⟩ = some (.int .i64 (ofE d a)) ∧ w'.cell? ⟨B2, 1, none⟩ = some (.slice (some ⟨g2, 0, none⟩) n2 p2) ∧ w'.cell? ⟨B2, 2, none⟩ = some (.int .i64 (ofE d b)) ∧ Hid (AtN w' B1 (decide (a / signB d % 2 = 1)) g1 n1 p1 (ofE d a)) ∧ Hid (AtN w' B2 (decide (b / signB d % 2 = 1)) g2 n2 p2 (ofE d b)) ∧ Hid (IsBig w' g1 n1 p1 (ofM d a)) ∧ Hid (IsBig w' g2 n2 p2 (ofM d b)) ∧ Hid (Below w.heap.size w w')) (refine ⟨?_, ?_, ?_, ?_, ?_, ?_, ?_, ?_, ?_⟩ <;> first | assumption | (go_keep; done)) (first | (go_at_call 50; obtain ⟨-, -, -, -, t1, t2, t3, t4, t5⟩ := ‹_ ∧ _ ∧ _ ∧ _ ∧ Hid (AtN _ B1 _ _ _ _ _) ∧ _›; refine (times_c g1 n1 p1 (ofM d a) g2 n2 p2 (ofM d b) _ (raw_hid t3) (raw_hid t4) (by omega) (by omega)).mono ?_; rintro e3 w13 ⟨g3, n3, p3, rfl, hP, b3⟩; have s1 := atN_hb t1 b3; have s2 := atN_hb t2 b3; have s3 := big_hb t3 b3; have s4 := big_hb t4 b3; have s5 := below_hb t5 b3; clear t1 t2 t3 t4 t5; have z1 := s1.out.2.2.1; have z2 := s1.out.2.2.2; have z3 := s2.out.2.2.1; have z4 := s2.out.2.2.2) | (go_at_call 40; obtain ⟨-, -, -, -, t1, t2, t3, t4, t5⟩ := ‹_ ∧ _ ∧ _ ∧ _ ∧ Hid (AtN _ B1 _ _ _ _ _) ∧ _›; refine (of_s sz d hs c hc _).mono ?_; rintro e4 w14 ⟨g4, n4, p4, rfl, hQ, b4⟩; have hP4 := big_hb hP b4; have s1 := atN_hb t1 b4; have s2 := atN_hb t2 b4; have s3 := big_hb t3 b4; have s4 := big_hb t4 b4; have s5 := below_hb t5 b4; clear t1 t2 t3 t4 t5; have z1 := s1.out.2.2.1; have z2 := s1.out.2.2.2; have z3 := s2.out.2.2.1; have z4 := s2.out.2.2.2) | (go_at_call 39; obtain ⟨-, -, -, -, t1, t2, t3, t4, t5⟩ := ‹_ ∧ _ ∧ _ ∧ _ ∧ Hid (AtN _ B1 _ _ _ _ _) ∧ _›; refine (sum_s _ sz d hs rm h5 h3 (prN d a b) (ofN d c) s _ (ofE d a + ofE d b) (ofE d c) g3 n3 p3 g4 n4 p4 (ofM d a * ofM d b) (ofM d c) (Lib.hid ⟨HSG.out, rfl, rfl⟩) (Lib.hid ⟨rfl, rfl, rfl⟩) hP4 hQ HPL HCL ee1 ee2 ec1 ec2).mono ?_; rintro e5 w15 ⟨rfl, b5⟩; have s1 := atN_hb t1 b5; have s2 := atN_hb t2 b5; have s3 := big_hb t3 b5; have s4 := big_hb t4 b5; have s5 := below_hb t5 b5; clear t1 t2 t3 t4 t5; have z1 := s1.out.2.2.1; have z2 := s1.out.2.2.2; have z3 := s2.out.2.2.1; have z4 := s2.out.2.2.2))
            refine k0 _ _ ?_
            go_wp2_with fail
            go_ret2
            exact retP_mk (by rw [HF.out]) (by rw [HF.out]) s5.out
          · have HIC := Lib.hid hic; clear hic
            go_wp2_with fail
            refine (inf_s sz d hs c hc _).mono ?_; rintro e0 wq ⟨rfl, bq⟩
            rw [HIC.out]
            replace hbw := hbw.trans (bq.mono hbw.size)
            clear bq
            have HF : Hid (fmaF d rm (readN d a) (readN d b) (readN d c) = (maskB d c, 0)) := by show _ = _; rw [HM.out, HIC.out]; rfl
            go_wp2_with fail
            refine (mask_s sz d hs c hc _).mono ?_; rintro e0 wq ⟨rfl, bq⟩
            replace hbw := hbw.trans (bq.mono hbw.size)
            clear bq
            go_wp2_with fail
            go_ret2
            exact retP_mk (by rw [HF.out]) (by rw [HF.out]) hbw
        · have HF : Hid (fmaF d rm (readN d a) (readN d b) (readN d c) = (r, f)) := HM.out
          go_wp2_with fail
          go_ret2
          exact retP_mk (by rw [HF.out]) (by rw [HF.out]) hbw
      · have HZB := Lib.hid (inf_zero d b hib); have HNB := Lib.hid (inf_nan d b hib); have HIB := Lib.hid hib; clear hib
        have HNA := Lib.hid (zero_nan d a HZA.out)
        obtain ⟨r, f, is, ho⟩ : ∃ r f is, oddV d [a, b, c] true = (r, f, is) := ⟨_, _, _, rfl⟩
        have HM : Hid (fmaF d rm (readN d a) (readN d b) (readN d c) = (r, f)) := by show _ = _; rw [fma_ref d rm a b c hc.out, HIA.out, HIB.out, HZA.out, HZB.out, HNA.out, HNB.out]; show (if (oddV d [a, b, c] true).2.2 = true then ((oddV d [a, b, c] true).1, (oddV d [a, b, c] true).2.1) else _) = _; cases is; exact (odd_inv ho).elim; rw [ho]; rfl
        have HO := Lib.hid ho; clear ho
        go_enter Try.func24, Try.ntmps24
        go_wp2_with fail
        refine (right_s sz d hs rm h5 h3 _).mono ?_; rintro e0 w1 ⟨rfl, bq⟩
        have hbw := bq; clear bq
        go_wp2_with fail
        refine (minused_s sz d hs a ha _).mono ?_; rintro e0 wq ⟨rfl, bq⟩
        replace hbw := hbw.trans (bq.mono hbw.size)
        clear bq
        go_wp2_with fail
        refine (minused_s sz d hs b hb _).mono ?_; rintro e0 wq ⟨rfl, bq⟩
        replace hbw := hbw.trans (bq.mono hbw.size)
        clear bq
        go_wp2_with fail
        rw [minus_xor, HSG.out]
        refine (inf_s sz d hs a ha _).mono ?_; rintro e0 wq ⟨rfl, bq⟩
        rw [HIA.out]
        replace hbw := hbw.trans (bq.mono hbw.size)
        clear bq
        go_wp2_with fail
        refine (zero_s sz d hs a ha _).mono ?_; rintro e0 wq ⟨rfl, bq⟩
        rw [HZA.out]
        replace hbw := hbw.trans (bq.mono hbw.size)
        clear bq
        go_wp2_with fail
        refine (inf_s sz d hs b hb _).mono ?_; rintro e0 wq ⟨rfl, bq⟩
        rw [HIB.out]
        replace hbw := hbw.trans (bq.mono hbw.size)
        clear bq
        go_wp2_with fail
        refine (inf_s sz d hs a ha _).mono ?_; rintro e0 wq ⟨rfl, bq⟩
        rw [HIA.out]
        replace hbw := hbw.trans (bq.mono hbw.size)
        clear bq
        go_wp2_with fail
        refine (inf_s sz d hs b hb _).mono ?_; rintro e0 wq ⟨rfl, bq⟩
        rw [HIB.out]
        replace hbw := hbw.trans (bq.mono hbw.size)
        clear bq
        go_wp2_with fail
        refine (nan_s sz d hs a ha _).mono ?_; rintro e0 wq ⟨rfl, bq⟩
        rw [HNA.out]
        replace hbw := hbw.trans (bq.mono hbw.size)
        clear bq
        go_wp2_with fail
        refine (nan_s sz d hs b hb _).mono ?_; rintro e0 wq ⟨rfl, bq⟩
        rw [HNB.out]
        replace hbw := hbw.trans (bq.mono hbw.size)
        clear bq
        go_wp2_with fail
        have HL := Lib.hid (lst_3 wq a b c 22)
        have hbw := hbw.trans ((below_one wq (Obj.cells #[.int .u64 a, .int .u64 b, .int .u64 c] 22)).mono hbw.size)
        refine (odd_l sz d hs _ [a, b, c] _ _ _ HL.out rfl (by simp) (get3 ha.out hb.out hc.out)).mono ?_; rintro e0 w9 ⟨rfl, bq⟩
        rw [HO.out]
        replace hbw := hbw.trans (bq.mono hbw.size); clear bq HL
        cases is
        · exact (odd_inv HO.out).elim
        · go_wp2_with fail
          go_ret2
          exact retP_mk (by rw [HM.out]) (by rw [HM.out]) hbw
  · have HZA := Lib.hid (inf_zero d a hia); have HNA := Lib.hid (inf_nan d a hia); have HIA := Lib.hid hia; clear hia
    cases hib : isInf d b
    · have HIB := Lib.hid hib; clear hib
      cases hzb : isZero d b
      · have HZB := Lib.hid hzb; clear hzb
        cases hnb : nanB d b
        · have HNB := Lib.hid hnb; clear hnb
          cases hic : isInf d c
          · have HIC := Lib.hid hic; clear hic
            obtain ⟨r, f, is, ho⟩ : ∃ r f is, oddV d [a, b, c] false = (r, f, is) := ⟨_, _, _, rfl⟩
            have HM : Hid (fmaF d rm (readN d a) (readN d b) (readN d c) = if is then (r, f) else (infV d s, 0)) := by show _ = _; rw [fma_ref d rm a b c hc.out, HIA.out, HIB.out, HZA.out, HZB.out, HNA.out, HNB.out, HIC.out, HSG.out]; show (if (oddV d [a, b, c] false).2.2 = true then ((oddV d [a, b, c] false).1, (oddV d [a, b, c] false).2.1) else (infV d s, 0)) = _; rw [ho]
            have HO := Lib.hid ho; clear ho
            go_enter Try.func24, Try.ntmps24
            go_wp2_with fail
            refine (right_s sz d hs rm h5 h3 _).mono ?_; rintro e0 w1 ⟨rfl, bq⟩
            have hbw := bq; clear bq
            go_wp2_with fail
            refine (minused_s sz d hs a ha _).mono ?_; rintro e0 wq ⟨rfl, bq⟩
            replace hbw := hbw.trans (bq.mono hbw.size)
            clear bq
            go_wp2_with fail
            refine (minused_s sz d hs b hb _).mono ?_; rintro e0 wq ⟨rfl, bq⟩
            replace hbw := hbw.trans (bq.mono hbw.size)
            clear bq
            go_wp2_with fail
            rw [minus_xor, HSG.out]
            refine (inf_s sz d hs a ha _).mono ?_; rintro e0 wq ⟨rfl, bq⟩
            rw [HIA.out]
            replace hbw := hbw.trans (bq.mono hbw.size)
            clear bq
            go_wp2_with fail
            refine (zero_s sz d hs b hb _).mono ?_; rintro e0 wq ⟨rfl, bq⟩
            rw [HZB.out]
            replace hbw := hbw.trans (bq.mono hbw.size)
            clear bq
            go_wp2_with fail
            refine (zero_s sz d hs a ha _).mono ?_; rintro e0 wq ⟨rfl, bq⟩
            rw [HZA.out]
            replace hbw := hbw.trans (bq.mono hbw.size)
            clear bq
            go_wp2_with fail
            refine (inf_s sz d hs a ha _).mono ?_; rintro e0 wq ⟨rfl, bq⟩
            rw [HIA.out]
            replace hbw := hbw.trans (bq.mono hbw.size)
            clear bq
            go_wp2_with fail
            refine (nan_s sz d hs a ha _).mono ?_; rintro e0 wq ⟨rfl, bq⟩
            rw [HNA.out]
            replace hbw := hbw.trans (bq.mono hbw.size)
            clear bq
            go_wp2_with fail
            refine (nan_s sz d hs b hb _).mono ?_; rintro e0 wq ⟨rfl, bq⟩
            rw [HNB.out]
            replace hbw := hbw.trans (bq.mono hbw.size)
            clear bq
            go_wp2_with fail
            have HL := Lib.hid (lst_3 wq a b c 22)
            have hbw := hbw.trans ((below_one wq (Obj.cells #[.int .u64 a, .int .u64 b, .int .u64 c] 22)).mono hbw.size)
            refine (inf_s sz d hs c hc _).mono ?_; rintro e0 wq ⟨rfl, bq⟩
            rw [HIC.out]
            replace HL := Lib.hid (HL.out.below bq)
            replace hbw := hbw.trans (bq.mono hbw.size); clear bq
            go_wp2_with fail
            refine (odd_l sz d hs _ [a, b, c] _ _ _ HL.out rfl (by simp) (get3 ha.out hb.out hc.out)).mono ?_; rintro e0 w9 ⟨rfl, bq⟩
            rw [HO.out]
            replace hbw := hbw.trans (bq.mono hbw.size); clear bq HL
            cases is
            · have HF : Hid (fmaF d rm (readN d a) (readN d b) (readN d c) = (infV d s, 0)) := HM.out
              go_wp2_with fail
              refine (infinity_s sz d hs s _).mono ?_; rintro e0 wq ⟨rfl, bq⟩
              replace hbw := hbw.trans (bq.mono hbw.size)
              clear bq
              go_wp2_with fail
              go_ret2
              exact retP_mk (by rw [HF.out]) (by rw [HF.out]) hbw
            · have HF : Hid (fmaF d rm (readN d a) (readN d b) (readN d c) = (r, f)) := HM.out
              go_wp2_with fail
              go_ret2
              exact retP_mk (by rw [HF.out]) (by rw [HF.out]) hbw
          · have HIC := Lib.hid hic; clear hic
            cases hsc : (sgB d c != s)
            · have HSC := Lib.hid hsc; clear hsc
              obtain ⟨r, f, is, ho⟩ : ∃ r f is, oddV d [a, b, c] false = (r, f, is) := ⟨_, _, _, rfl⟩
              have HM : Hid (fmaF d rm (readN d a) (readN d b) (readN d c) = if is then (r, f) else (infV d s, 0)) := by show _ = _; rw [fma_ref d rm a b c hc.out, HIA.out, HIB.out, HZA.out, HZB.out, HNA.out, HNB.out, HIC.out, HSG.out]; show (if (oddV d [a, b, c] (sgB d c != s)).2.2 = true then ((oddV d [a, b, c] (sgB d c != s)).1, (oddV d [a, b, c] (sgB d c != s)).2.1) else (infV d s, 0)) = _; rw [HSC.out, ho]
              have HO := Lib.hid ho; clear ho
              go_enter Try.func24, Try.ntmps24
              go_wp2_with fail
              refine (right_s sz d hs rm h5 h3 _).mono ?_; rintro e0 w1 ⟨rfl, bq⟩
              have hbw := bq; clear bq
              go_wp2_with fail
              refine (minused_s sz d hs a ha _).mono ?_; rintro e0 wq ⟨rfl, bq⟩
              replace hbw := hbw.trans (bq.mono hbw.size)
              clear bq
              go_wp2_with fail
              refine (minused_s sz d hs b hb _).mono ?_; rintro e0 wq ⟨rfl, bq⟩
              replace hbw := hbw.trans (bq.mono hbw.size)
              clear bq
              go_wp2_with fail
              rw [minus_xor, HSG.out]
              refine (inf_s sz d hs a ha _).mono ?_; rintro e0 wq ⟨rfl, bq⟩
              rw [HIA.out]
              replace hbw := hbw.trans (bq.mono hbw.size)
              clear bq
              go_wp2_with fail
              refine (zero_s sz d hs b hb _).mono ?_; rintro e0 wq ⟨rfl, bq⟩
              rw [HZB.out]
              replace hbw := hbw.trans (bq.mono hbw.size)
              clear bq
              go_wp2_with fail
              refine (zero_s sz d hs a ha _).mono ?_; rintro e0 wq ⟨rfl, bq⟩
              rw [HZA.out]
              replace hbw := hbw.trans (bq.mono hbw.size)
              clear bq
              go_wp2_with fail
              refine (inf_s sz d hs a ha _).mono ?_; rintro e0 wq ⟨rfl, bq⟩
              rw [HIA.out]
              replace hbw := hbw.trans (bq.mono hbw.size)
              clear bq
              go_wp2_with fail
              refine (nan_s sz d hs a ha _).mono ?_; rintro e0 wq ⟨rfl, bq⟩
              rw [HNA.out]
              replace hbw := hbw.trans (bq.mono hbw.size)
              clear bq
              go_wp2_with fail
              refine (nan_s sz d hs b hb _).mono ?_; rintro e0 wq ⟨rfl, bq⟩
              rw [HNB.out]
              replace hbw := hbw.trans (bq.mono hbw.size)
              clear bq
              go_wp2_with fail
              have HL := Lib.hid (lst_3 wq a b c 22)
              have hbw := hbw.trans ((below_one wq (Obj.cells #[.int .u64 a, .int .u64 b, .int .u64 c] 22)).mono hbw.size)
              refine (inf_s sz d hs c hc _).mono ?_; rintro e0 wq ⟨rfl, bq⟩
              rw [HIC.out]
              replace HL := Lib.hid (HL.out.below bq)
              replace hbw := hbw.trans (bq.mono hbw.size); clear bq
              go_wp2_with fail
              refine (minused_s sz d hs c hc _).mono ?_; rintro e0 wq ⟨rfl, bq⟩
              replace HL := Lib.hid (HL.out.below bq)
              replace hbw := hbw.trans (bq.mono hbw.size); clear bq
              go_wp2_with fail
              rw [minus_s, HSC.out]
              refine (odd_l sz d hs _ [a, b, c] _ _ _ HL.out rfl (by simp) (get3 ha.out hb.out hc.out)).mono ?_; rintro e0 w9 ⟨rfl, bq⟩
              rw [HO.out]
              replace hbw := hbw.trans (bq.mono hbw.size); clear bq HL
              cases is
              · have HF : Hid (fmaF d rm (readN d a) (readN d b) (readN d c) = (infV d s, 0)) := HM.out
                go_wp2_with fail
                refine (infinity_s sz d hs s _).mono ?_; rintro e0 wq ⟨rfl, bq⟩
                replace hbw := hbw.trans (bq.mono hbw.size)
                clear bq
                go_wp2_with fail
                go_ret2
                exact retP_mk (by rw [HF.out]) (by rw [HF.out]) hbw
              · have HF : Hid (fmaF d rm (readN d a) (readN d b) (readN d c) = (r, f)) := HM.out
                go_wp2_with fail
                go_ret2
                exact retP_mk (by rw [HF.out]) (by rw [HF.out]) hbw
            · have HSC := Lib.hid hsc; clear hsc
              obtain ⟨r, f, is, ho⟩ : ∃ r f is, oddV d [a, b, c] true = (r, f, is) := ⟨_, _, _, rfl⟩
              have HM : Hid (fmaF d rm (readN d a) (readN d b) (readN d c) = (r, f)) := by show _ = _; rw [fma_ref d rm a b c hc.out, HIA.out, HIB.out, HZA.out, HZB.out, HNA.out, HNB.out, HIC.out, HSG.out]; show (if (oddV d [a, b, c] (sgB d c != s)).2.2 = true then ((oddV d [a, b, c] (sgB d c != s)).1, (oddV d [a, b, c] (sgB d c != s)).2.1) else _) = _; rw [HSC.out]; cases is; exact (odd_inv ho).elim; rw [ho]; rfl
              have HO := Lib.hid ho; clear ho
              go_enter Try.func24, Try.ntmps24
              go_wp2_with fail
              refine (right_s sz d hs rm h5 h3 _).mono ?_; rintro e0 w1 ⟨rfl, bq⟩
              have hbw := bq; clear bq
              go_wp2_with fail
              refine (minused_s sz d hs a ha _).mono ?_; rintro e0 wq ⟨rfl, bq⟩
              replace hbw := hbw.trans (bq.mono hbw.size)
              clear bq
              go_wp2_with fail
              refine (minused_s sz d hs b hb _).mono ?_; rintro e0 wq ⟨rfl, bq⟩
              replace hbw := hbw.trans (bq.mono hbw.size)
              clear bq
              go_wp2_with fail
              rw [minus_xor, HSG.out]
              refine (inf_s sz d hs a ha _).mono ?_; rintro e0 wq ⟨rfl, bq⟩
              rw [HIA.out]
              replace hbw := hbw.trans (bq.mono hbw.size)
              clear bq
              go_wp2_with fail
              refine (zero_s sz d hs b hb _).mono ?_; rintro e0 wq ⟨rfl, bq⟩
              rw [HZB.out]
              replace hbw := hbw.trans (bq.mono hbw.size)
              clear bq
              go_wp2_with fail
              refine (zero_s sz d hs a ha _).mono ?_; rintro e0 wq ⟨rfl, bq⟩
              rw [HZA.out]
              replace hbw := hbw.trans (bq.mono hbw.size)
              clear bq
              go_wp2_with fail
              refine (inf_s sz d hs a ha _).mono ?_; rintro e0 wq ⟨rfl, bq⟩
              rw [HIA.out]
              replace hbw := hbw.trans (bq.mono hbw.size)
              clear bq
              go_wp2_with fail
              refine (nan_s sz d hs a ha _).mono ?_; rintro e0 wq ⟨rfl, bq⟩
              rw [HNA.out]
              replace hbw := hbw.trans (bq.mono hbw.size)
              clear bq
              go_wp2_with fail
              refine (nan_s sz d hs b hb _).mono ?_; rintro e0 wq ⟨rfl, bq⟩
              rw [HNB.out]
              replace hbw := hbw.trans (bq.mono hbw.size)
              clear bq
              go_wp2_with fail
              have HL := Lib.hid (lst_3 wq a b c 22)
              have hbw := hbw.trans ((below_one wq (Obj.cells #[.int .u64 a, .int .u64 b, .int .u64 c] 22)).mono hbw.size)
              refine (inf_s sz d hs c hc _).mono ?_; rintro e0 wq ⟨rfl, bq⟩
              rw [HIC.out]
              replace HL := Lib.hid (HL.out.below bq)
              replace hbw := hbw.trans (bq.mono hbw.size); clear bq
              go_wp2_with fail
              refine (minused_s sz d hs c hc _).mono ?_; rintro e0 wq ⟨rfl, bq⟩
              replace HL := Lib.hid (HL.out.below bq)
              replace hbw := hbw.trans (bq.mono hbw.size); clear bq
              go_wp2_with fail
              rw [minus_s, HSC.out]
              refine (odd_l sz d hs _ [a, b, c] _ _ _ HL.out rfl (by simp) (get3 ha.out hb.out hc.out)).mono ?_; rintro e0 w9 ⟨rfl, bq⟩
              rw [HO.out]
              replace hbw := hbw.trans (bq.mono hbw.size); clear bq HL
              cases is
              · exact (odd_inv HO.out).elim
              · go_wp2_with fail
                go_ret2
                exact retP_mk (by rw [HM.out]) (by rw [HM.out]) hbw
        · have HNB := Lib.hid hnb; clear hnb
          obtain ⟨r, f, is, ho⟩ : ∃ r f is, oddV d [a, b, c] false = (r, f, is) := ⟨_, _, _, rfl⟩
          have HM : Hid (fmaF d rm (readN d a) (readN d b) (readN d c) = if is then (r, f) else (if isInf d c = true then (maskB d c, 0) else sumR d rm (prN d a b) (ofN d c))) := by show _ = _; rw [fma_ref d rm a b c hc.out, HIA.out, HIB.out, HZA.out, HZB.out, HNA.out, HNB.out]; show (if (oddV d [a, b, c] false).2.2 = true then ((oddV d [a, b, c] false).1, (oddV d [a, b, c] false).2.1) else (if isInf d c = true then (maskB d c, 0) else sumR d rm (prN d a b) (ofN d c))) = _; rw [ho]
          have HO := Lib.hid ho; clear ho
          go_enter Try.func24, Try.ntmps24
          go_wp2_with fail
          refine (right_s sz d hs rm h5 h3 _).mono ?_; rintro e0 w1 ⟨rfl, bq⟩
          have hbw := bq; clear bq
          go_wp2_with fail
          refine (minused_s sz d hs a ha _).mono ?_; rintro e0 wq ⟨rfl, bq⟩
          replace hbw := hbw.trans (bq.mono hbw.size)
          clear bq
          go_wp2_with fail
          refine (minused_s sz d hs b hb _).mono ?_; rintro e0 wq ⟨rfl, bq⟩
          replace hbw := hbw.trans (bq.mono hbw.size)
          clear bq
          go_wp2_with fail
          rw [minus_xor, HSG.out]
          refine (inf_s sz d hs a ha _).mono ?_; rintro e0 wq ⟨rfl, bq⟩
          rw [HIA.out]
          replace hbw := hbw.trans (bq.mono hbw.size)
          clear bq
          go_wp2_with fail
          refine (zero_s sz d hs b hb _).mono ?_; rintro e0 wq ⟨rfl, bq⟩
          rw [HZB.out]
          replace hbw := hbw.trans (bq.mono hbw.size)
          clear bq
          go_wp2_with fail
          refine (zero_s sz d hs a ha _).mono ?_; rintro e0 wq ⟨rfl, bq⟩
          rw [HZA.out]
          replace hbw := hbw.trans (bq.mono hbw.size)
          clear bq
          go_wp2_with fail
          refine (inf_s sz d hs a ha _).mono ?_; rintro e0 wq ⟨rfl, bq⟩
          rw [HIA.out]
          replace hbw := hbw.trans (bq.mono hbw.size)
          clear bq
          go_wp2_with fail
          refine (nan_s sz d hs a ha _).mono ?_; rintro e0 wq ⟨rfl, bq⟩
          rw [HNA.out]
          replace hbw := hbw.trans (bq.mono hbw.size)
          clear bq
          go_wp2_with fail
          refine (nan_s sz d hs b hb _).mono ?_; rintro e0 wq ⟨rfl, bq⟩
          rw [HNB.out]
          replace hbw := hbw.trans (bq.mono hbw.size)
          clear bq
          go_wp2_with fail
          have HL := Lib.hid (lst_3 wq a b c 22)
          have hbw := hbw.trans ((below_one wq (Obj.cells #[.int .u64 a, .int .u64 b, .int .u64 c] 22)).mono hbw.size)
          refine (odd_l sz d hs _ [a, b, c] _ _ _ HL.out rfl (by simp) (get3 ha.out hb.out hc.out)).mono ?_; rintro e0 w9 ⟨rfl, bq⟩
          rw [HO.out]
          replace hbw := hbw.trans (bq.mono hbw.size); clear bq HL
          cases is
          · exact absurd (odd_no HO.out b (by simp)) (by rw [HNB.out]; decide)
          · have HF : Hid (fmaF d rm (readN d a) (readN d b) (readN d c) = (r, f)) := HM.out
            go_wp2_with fail
            go_ret2
            exact retP_mk (by rw [HF.out]) (by rw [HF.out]) hbw
      · have HZB := Lib.hid hzb; clear hzb
        cases hnb : nanB d b
        · have HNB := Lib.hid hnb; clear hnb
          obtain ⟨r, f, is, ho⟩ : ∃ r f is, oddV d [a, b, c] true = (r, f, is) := ⟨_, _, _, rfl⟩
          have HM : Hid (fmaF d rm (readN d a) (readN d b) (readN d c) = (r, f)) := by show _ = _; rw [fma_ref d rm a b c hc.out, HIA.out, HIB.out, HZA.out, HZB.out, HNA.out, HNB.out]; show (if (oddV d [a, b, c] true).2.2 = true then ((oddV d [a, b, c] true).1, (oddV d [a, b, c] true).2.1) else _) = _; cases is; exact (odd_inv ho).elim; rw [ho]; rfl
          have HO := Lib.hid ho; clear ho
          go_enter Try.func24, Try.ntmps24
          go_wp2_with fail
          refine (right_s sz d hs rm h5 h3 _).mono ?_; rintro e0 w1 ⟨rfl, bq⟩
          have hbw := bq; clear bq
          go_wp2_with fail
          refine (minused_s sz d hs a ha _).mono ?_; rintro e0 wq ⟨rfl, bq⟩
          replace hbw := hbw.trans (bq.mono hbw.size)
          clear bq
          go_wp2_with fail
          refine (minused_s sz d hs b hb _).mono ?_; rintro e0 wq ⟨rfl, bq⟩
          replace hbw := hbw.trans (bq.mono hbw.size)
          clear bq
          go_wp2_with fail
          rw [minus_xor, HSG.out]
          refine (inf_s sz d hs a ha _).mono ?_; rintro e0 wq ⟨rfl, bq⟩
          rw [HIA.out]
          replace hbw := hbw.trans (bq.mono hbw.size)
          clear bq
          go_wp2_with fail
          refine (zero_s sz d hs b hb _).mono ?_; rintro e0 wq ⟨rfl, bq⟩
          rw [HZB.out]
          replace hbw := hbw.trans (bq.mono hbw.size)
          clear bq
          go_wp2_with fail
          refine (inf_s sz d hs a ha _).mono ?_; rintro e0 wq ⟨rfl, bq⟩
          rw [HIA.out]
          replace hbw := hbw.trans (bq.mono hbw.size)
          clear bq
          go_wp2_with fail
          refine (nan_s sz d hs a ha _).mono ?_; rintro e0 wq ⟨rfl, bq⟩
          rw [HNA.out]
          replace hbw := hbw.trans (bq.mono hbw.size)
          clear bq
          go_wp2_with fail
          refine (nan_s sz d hs b hb _).mono ?_; rintro e0 wq ⟨rfl, bq⟩
          rw [HNB.out]
          replace hbw := hbw.trans (bq.mono hbw.size)
          clear bq
          go_wp2_with fail
          have HL := Lib.hid (lst_3 wq a b c 22)
          have hbw := hbw.trans ((below_one wq (Obj.cells #[.int .u64 a, .int .u64 b, .int .u64 c] 22)).mono hbw.size)
          refine (odd_l sz d hs _ [a, b, c] _ _ _ HL.out rfl (by simp) (get3 ha.out hb.out hc.out)).mono ?_; rintro e0 w9 ⟨rfl, bq⟩
          rw [HO.out]
          replace hbw := hbw.trans (bq.mono hbw.size); clear bq HL
          cases is
          · exact (odd_inv HO.out).elim
          · go_wp2_with fail
            go_ret2
            exact retP_mk (by rw [HM.out]) (by rw [HM.out]) hbw
        · have HNB := Lib.hid hnb; clear hnb
          obtain ⟨r, f, is, ho⟩ : ∃ r f is, oddV d [a, b, c] true = (r, f, is) := ⟨_, _, _, rfl⟩
          have HM : Hid (fmaF d rm (readN d a) (readN d b) (readN d c) = (r, f)) := by show _ = _; rw [fma_ref d rm a b c hc.out, HIA.out, HIB.out, HZA.out, HZB.out, HNA.out, HNB.out]; show (if (oddV d [a, b, c] true).2.2 = true then ((oddV d [a, b, c] true).1, (oddV d [a, b, c] true).2.1) else _) = _; cases is; exact (odd_inv ho).elim; rw [ho]; rfl
          have HO := Lib.hid ho; clear ho
          go_enter Try.func24, Try.ntmps24
          go_wp2_with fail
          refine (right_s sz d hs rm h5 h3 _).mono ?_; rintro e0 w1 ⟨rfl, bq⟩
          have hbw := bq; clear bq
          go_wp2_with fail
          refine (minused_s sz d hs a ha _).mono ?_; rintro e0 wq ⟨rfl, bq⟩
          replace hbw := hbw.trans (bq.mono hbw.size)
          clear bq
          go_wp2_with fail
          refine (minused_s sz d hs b hb _).mono ?_; rintro e0 wq ⟨rfl, bq⟩
          replace hbw := hbw.trans (bq.mono hbw.size)
          clear bq
          go_wp2_with fail
          rw [minus_xor, HSG.out]
          refine (inf_s sz d hs a ha _).mono ?_; rintro e0 wq ⟨rfl, bq⟩
          rw [HIA.out]
          replace hbw := hbw.trans (bq.mono hbw.size)
          clear bq
          go_wp2_with fail
          refine (zero_s sz d hs b hb _).mono ?_; rintro e0 wq ⟨rfl, bq⟩
          rw [HZB.out]
          replace hbw := hbw.trans (bq.mono hbw.size)
          clear bq
          go_wp2_with fail
          refine (inf_s sz d hs a ha _).mono ?_; rintro e0 wq ⟨rfl, bq⟩
          rw [HIA.out]
          replace hbw := hbw.trans (bq.mono hbw.size)
          clear bq
          go_wp2_with fail
          refine (nan_s sz d hs a ha _).mono ?_; rintro e0 wq ⟨rfl, bq⟩
          rw [HNA.out]
          replace hbw := hbw.trans (bq.mono hbw.size)
          clear bq
          go_wp2_with fail
          refine (nan_s sz d hs b hb _).mono ?_; rintro e0 wq ⟨rfl, bq⟩
          rw [HNB.out]
          replace hbw := hbw.trans (bq.mono hbw.size)
          clear bq
          go_wp2_with fail
          have HL := Lib.hid (lst_3 wq a b c 22)
          have hbw := hbw.trans ((below_one wq (Obj.cells #[.int .u64 a, .int .u64 b, .int .u64 c] 22)).mono hbw.size)
          refine (odd_l sz d hs _ [a, b, c] _ _ _ HL.out rfl (by simp) (get3 ha.out hb.out hc.out)).mono ?_; rintro e0 w9 ⟨rfl, bq⟩
          rw [HO.out]
          replace hbw := hbw.trans (bq.mono hbw.size); clear bq HL
          cases is
          · exact (odd_inv HO.out).elim
          · go_wp2_with fail
            go_ret2
            exact retP_mk (by rw [HM.out]) (by rw [HM.out]) hbw
    · have HZB := Lib.hid (inf_zero d b hib); have HNB := Lib.hid (inf_nan d b hib); have HIB := Lib.hid hib; clear hib
      cases hic : isInf d c
      · have HIC := Lib.hid hic; clear hic
        obtain ⟨r, f, is, ho⟩ : ∃ r f is, oddV d [a, b, c] false = (r, f, is) := ⟨_, _, _, rfl⟩
        have HM : Hid (fmaF d rm (readN d a) (readN d b) (readN d c) = if is then (r, f) else (infV d s, 0)) := by show _ = _; rw [fma_ref d rm a b c hc.out, HIA.out, HIB.out, HZA.out, HZB.out, HNA.out, HNB.out, HIC.out, HSG.out]; show (if (oddV d [a, b, c] false).2.2 = true then ((oddV d [a, b, c] false).1, (oddV d [a, b, c] false).2.1) else (infV d s, 0)) = _; rw [ho]
        have HO := Lib.hid ho; clear ho
        go_enter Try.func24, Try.ntmps24
        go_wp2_with fail
        refine (right_s sz d hs rm h5 h3 _).mono ?_; rintro e0 w1 ⟨rfl, bq⟩
        have hbw := bq; clear bq
        go_wp2_with fail
        refine (minused_s sz d hs a ha _).mono ?_; rintro e0 wq ⟨rfl, bq⟩
        replace hbw := hbw.trans (bq.mono hbw.size)
        clear bq
        go_wp2_with fail
        refine (minused_s sz d hs b hb _).mono ?_; rintro e0 wq ⟨rfl, bq⟩
        replace hbw := hbw.trans (bq.mono hbw.size)
        clear bq
        go_wp2_with fail
        rw [minus_xor, HSG.out]
        refine (inf_s sz d hs a ha _).mono ?_; rintro e0 wq ⟨rfl, bq⟩
        rw [HIA.out]
        replace hbw := hbw.trans (bq.mono hbw.size)
        clear bq
        go_wp2_with fail
        refine (zero_s sz d hs b hb _).mono ?_; rintro e0 wq ⟨rfl, bq⟩
        rw [HZB.out]
        replace hbw := hbw.trans (bq.mono hbw.size)
        clear bq
        go_wp2_with fail
        refine (zero_s sz d hs a ha _).mono ?_; rintro e0 wq ⟨rfl, bq⟩
        rw [HZA.out]
        replace hbw := hbw.trans (bq.mono hbw.size)
        clear bq
        go_wp2_with fail
        refine (inf_s sz d hs a ha _).mono ?_; rintro e0 wq ⟨rfl, bq⟩
        rw [HIA.out]
        replace hbw := hbw.trans (bq.mono hbw.size)
        clear bq
        go_wp2_with fail
        refine (nan_s sz d hs a ha _).mono ?_; rintro e0 wq ⟨rfl, bq⟩
        rw [HNA.out]
        replace hbw := hbw.trans (bq.mono hbw.size)
        clear bq
        go_wp2_with fail
        refine (nan_s sz d hs b hb _).mono ?_; rintro e0 wq ⟨rfl, bq⟩
        rw [HNB.out]
        replace hbw := hbw.trans (bq.mono hbw.size)
        clear bq
        go_wp2_with fail
        have HL := Lib.hid (lst_3 wq a b c 22)
        have hbw := hbw.trans ((below_one wq (Obj.cells #[.int .u64 a, .int .u64 b, .int .u64 c] 22)).mono hbw.size)
        refine (inf_s sz d hs c hc _).mono ?_; rintro e0 wq ⟨rfl, bq⟩
        rw [HIC.out]
        replace HL := Lib.hid (HL.out.below bq)
        replace hbw := hbw.trans (bq.mono hbw.size); clear bq
        go_wp2_with fail
        refine (odd_l sz d hs _ [a, b, c] _ _ _ HL.out rfl (by simp) (get3 ha.out hb.out hc.out)).mono ?_; rintro e0 w9 ⟨rfl, bq⟩
        rw [HO.out]
        replace hbw := hbw.trans (bq.mono hbw.size); clear bq HL
        cases is
        · have HF : Hid (fmaF d rm (readN d a) (readN d b) (readN d c) = (infV d s, 0)) := HM.out
          go_wp2_with fail
          refine (infinity_s sz d hs s _).mono ?_; rintro e0 wq ⟨rfl, bq⟩
          replace hbw := hbw.trans (bq.mono hbw.size)
          clear bq
          go_wp2_with fail
          go_ret2
          exact retP_mk (by rw [HF.out]) (by rw [HF.out]) hbw
        · have HF : Hid (fmaF d rm (readN d a) (readN d b) (readN d c) = (r, f)) := HM.out
          go_wp2_with fail
          go_ret2
          exact retP_mk (by rw [HF.out]) (by rw [HF.out]) hbw
      · have HIC := Lib.hid hic; clear hic
        cases hsc : (sgB d c != s)
        · have HSC := Lib.hid hsc; clear hsc
          obtain ⟨r, f, is, ho⟩ : ∃ r f is, oddV d [a, b, c] false = (r, f, is) := ⟨_, _, _, rfl⟩
          have HM : Hid (fmaF d rm (readN d a) (readN d b) (readN d c) = if is then (r, f) else (infV d s, 0)) := by show _ = _; rw [fma_ref d rm a b c hc.out, HIA.out, HIB.out, HZA.out, HZB.out, HNA.out, HNB.out, HIC.out, HSG.out]; show (if (oddV d [a, b, c] (sgB d c != s)).2.2 = true then ((oddV d [a, b, c] (sgB d c != s)).1, (oddV d [a, b, c] (sgB d c != s)).2.1) else (infV d s, 0)) = _; rw [HSC.out, ho]
          have HO := Lib.hid ho; clear ho
          go_enter Try.func24, Try.ntmps24
          go_wp2_with fail
          refine (right_s sz d hs rm h5 h3 _).mono ?_; rintro e0 w1 ⟨rfl, bq⟩
          have hbw := bq; clear bq
          go_wp2_with fail
          refine (minused_s sz d hs a ha _).mono ?_; rintro e0 wq ⟨rfl, bq⟩
          replace hbw := hbw.trans (bq.mono hbw.size)
          clear bq
          go_wp2_with fail
          refine (minused_s sz d hs b hb _).mono ?_; rintro e0 wq ⟨rfl, bq⟩
          replace hbw := hbw.trans (bq.mono hbw.size)
          clear bq
          go_wp2_with fail
          rw [minus_xor, HSG.out]
          refine (inf_s sz d hs a ha _).mono ?_; rintro e0 wq ⟨rfl, bq⟩
          rw [HIA.out]
          replace hbw := hbw.trans (bq.mono hbw.size)
          clear bq
          go_wp2_with fail
          refine (zero_s sz d hs b hb _).mono ?_; rintro e0 wq ⟨rfl, bq⟩
          rw [HZB.out]
          replace hbw := hbw.trans (bq.mono hbw.size)
          clear bq
          go_wp2_with fail
          refine (zero_s sz d hs a ha _).mono ?_; rintro e0 wq ⟨rfl, bq⟩
          rw [HZA.out]
          replace hbw := hbw.trans (bq.mono hbw.size)
          clear bq
          go_wp2_with fail
          refine (inf_s sz d hs a ha _).mono ?_; rintro e0 wq ⟨rfl, bq⟩
          rw [HIA.out]
          replace hbw := hbw.trans (bq.mono hbw.size)
          clear bq
          go_wp2_with fail
          refine (nan_s sz d hs a ha _).mono ?_; rintro e0 wq ⟨rfl, bq⟩
          rw [HNA.out]
          replace hbw := hbw.trans (bq.mono hbw.size)
          clear bq
          go_wp2_with fail
          refine (nan_s sz d hs b hb _).mono ?_; rintro e0 wq ⟨rfl, bq⟩
          rw [HNB.out]
          replace hbw := hbw.trans (bq.mono hbw.size)
          clear bq
          go_wp2_with fail
          have HL := Lib.hid (lst_3 wq a b c 22)
          have hbw := hbw.trans ((below_one wq (Obj.cells #[.int .u64 a, .int .u64 b, .int .u64 c] 22)).mono hbw.size)
          refine (inf_s sz d hs c hc _).mono ?_; rintro e0 wq ⟨rfl, bq⟩
          rw [HIC.out]
          replace HL := Lib.hid (HL.out.below bq)
          replace hbw := hbw.trans (bq.mono hbw.size); clear bq
          go_wp2_with fail
          refine (minused_s sz d hs c hc _).mono ?_; rintro e0 wq ⟨rfl, bq⟩
          replace HL := Lib.hid (HL.out.below bq)
          replace hbw := hbw.trans (bq.mono hbw.size); clear bq
          go_wp2_with fail
          rw [minus_s, HSC.out]
          refine (odd_l sz d hs _ [a, b, c] _ _ _ HL.out rfl (by simp) (get3 ha.out hb.out hc.out)).mono ?_; rintro e0 w9 ⟨rfl, bq⟩
          rw [HO.out]
          replace hbw := hbw.trans (bq.mono hbw.size); clear bq HL
          cases is
          · have HF : Hid (fmaF d rm (readN d a) (readN d b) (readN d c) = (infV d s, 0)) := HM.out
            go_wp2_with fail
            refine (infinity_s sz d hs s _).mono ?_; rintro e0 wq ⟨rfl, bq⟩
            replace hbw := hbw.trans (bq.mono hbw.size)
            clear bq
            go_wp2_with fail
            go_ret2
            exact retP_mk (by rw [HF.out]) (by rw [HF.out]) hbw
          · have HF : Hid (fmaF d rm (readN d a) (readN d b) (readN d c) = (r, f)) := HM.out
            go_wp2_with fail
            go_ret2
            exact retP_mk (by rw [HF.out]) (by rw [HF.out]) hbw
        · have HSC := Lib.hid hsc; clear hsc
          obtain ⟨r, f, is, ho⟩ : ∃ r f is, oddV d [a, b, c] true = (r, f, is) := ⟨_, _, _, rfl⟩
          have HM : Hid (fmaF d rm (readN d a) (readN d b) (readN d c) = (r, f)) := by show _ = _; rw [fma_ref d rm a b c hc.out, HIA.out, HIB.out, HZA.out, HZB.out, HNA.out, HNB.out, HIC.out, HSG.out]; show (if (oddV d [a, b, c] (sgB d c != s)).2.2 = true then ((oddV d [a, b, c] (sgB d c != s)).1, (oddV d [a, b, c] (sgB d c != s)).2.1) else _) = _; rw [HSC.out]; cases is; exact (odd_inv ho).elim; rw [ho]; rfl
          have HO := Lib.hid ho; clear ho
          go_enter Try.func24, Try.ntmps24
          go_wp2_with fail
          refine (right_s sz d hs rm h5 h3 _).mono ?_; rintro e0 w1 ⟨rfl, bq⟩
          have hbw := bq; clear bq
          go_wp2_with fail
          refine (minused_s sz d hs a ha _).mono ?_; rintro e0 wq ⟨rfl, bq⟩
          replace hbw := hbw.trans (bq.mono hbw.size)
          clear bq
          go_wp2_with fail
          refine (minused_s sz d hs b hb _).mono ?_; rintro e0 wq ⟨rfl, bq⟩
          replace hbw := hbw.trans (bq.mono hbw.size)
          clear bq
          go_wp2_with fail
          rw [minus_xor, HSG.out]
          refine (inf_s sz d hs a ha _).mono ?_; rintro e0 wq ⟨rfl, bq⟩
          rw [HIA.out]
          replace hbw := hbw.trans (bq.mono hbw.size)
          clear bq
          go_wp2_with fail
          refine (zero_s sz d hs b hb _).mono ?_; rintro e0 wq ⟨rfl, bq⟩
          rw [HZB.out]
          replace hbw := hbw.trans (bq.mono hbw.size)
          clear bq
          go_wp2_with fail
          refine (zero_s sz d hs a ha _).mono ?_; rintro e0 wq ⟨rfl, bq⟩
          rw [HZA.out]
          replace hbw := hbw.trans (bq.mono hbw.size)
          clear bq
          go_wp2_with fail
          refine (inf_s sz d hs a ha _).mono ?_; rintro e0 wq ⟨rfl, bq⟩
          rw [HIA.out]
          replace hbw := hbw.trans (bq.mono hbw.size)
          clear bq
          go_wp2_with fail
          refine (nan_s sz d hs a ha _).mono ?_; rintro e0 wq ⟨rfl, bq⟩
          rw [HNA.out]
          replace hbw := hbw.trans (bq.mono hbw.size)
          clear bq
          go_wp2_with fail
          refine (nan_s sz d hs b hb _).mono ?_; rintro e0 wq ⟨rfl, bq⟩
          rw [HNB.out]
          replace hbw := hbw.trans (bq.mono hbw.size)
          clear bq
          go_wp2_with fail
          have HL := Lib.hid (lst_3 wq a b c 22)
          have hbw := hbw.trans ((below_one wq (Obj.cells #[.int .u64 a, .int .u64 b, .int .u64 c] 22)).mono hbw.size)
          refine (inf_s sz d hs c hc _).mono ?_; rintro e0 wq ⟨rfl, bq⟩
          rw [HIC.out]
          replace HL := Lib.hid (HL.out.below bq)
          replace hbw := hbw.trans (bq.mono hbw.size); clear bq
          go_wp2_with fail
          refine (minused_s sz d hs c hc _).mono ?_; rintro e0 wq ⟨rfl, bq⟩
          replace HL := Lib.hid (HL.out.below bq)
          replace hbw := hbw.trans (bq.mono hbw.size); clear bq
          go_wp2_with fail
          rw [minus_s, HSC.out]
          refine (odd_l sz d hs _ [a, b, c] _ _ _ HL.out rfl (by simp) (get3 ha.out hb.out hc.out)).mono ?_; rintro e0 w9 ⟨rfl, bq⟩
          rw [HO.out]
          replace hbw := hbw.trans (bq.mono hbw.size); clear bq HL
          cases is
          · exact (odd_inv HO.out).elim
          · go_wp2_with fail
            go_ret2
            exact retP_mk (by rw [HM.out]) (by rw [HM.out]) hbw
end Go.Proofs.Ythjdeopfbjmmeaa
