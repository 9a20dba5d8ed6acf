/- The reference's Div. -/
import Derived.Test.YtmdgfddiniapfaaK19
import Derived.Test.YtmdgfddiniapfaaK21
import Derived.Deep.RegionHeld3
namespace Go.Proofs.Ytmdgfddiniapfaa
open Go.ChangeShapes Go.WideShapes Go.ChangeAt Go.RowKit
set_option linter.unusedVariables false
set_option linter.unusedSimpArgs false
theorem over_m (ga na pa A gb nb pb B : Nat) (mb : Bool) (hm : Hid (decide (A % B ≠ 0) = mb)) (w : World) (ha : Hid (IsRaw w ga na pa A)) (hb : Hid (IsBig w gb nb pb B)) (hB : Hid (0 < B)) (hAl : Hid (A < 2 ^ 240)) (hBl : Hid (B < 2 ^ 240)) (hna : na ≤ 100) :
    Calls Try.prog 55 #[.slice (some ⟨ga, 0, none⟩) na pa, .slice (some ⟨gb, 0, none⟩) nb pb] w (RetGB (A / B) mb w) := by
  rw [← hm.out]; exact over_c ga na pa A gb nb pb B w ha hb hB hAl hBl hna
theorem div_big {A B : Nat} (h : A ≠ 0) (hB : B < 2 ^ 53) (hA : A < 2 ^ 53) (b0 : B ≠ 0) : 0 < B ∧ A * 2 ^ 130 < 2 ^ 240 ∧ B < 2 ^ 240 ∧ A * 2 ^ 130 / B < 2 ^ 183 := by
  have h1 : A * 2 ^ 130 < 2 ^ 183 := by have := Nat.mul_lt_mul_of_pos_right hA (show 0 < 2 ^ 130 by decide); omega
  have h2 := Nat.div_le_self (A * 2 ^ 130) B
  omega
set_option maxRecDepth 100000 in
set_option maxHeartbeats 16000000 in
theorem Div_r (sz : Int) (d : Bool) (hs : Hid (Sz sz d)) (rm : Int) (h5 : 0 ≤ rm) (h3 : rm < 5) (a b : Nat) (ha : Hid (a < 18446744073709551616)) (hb : Hid (b < 18446744073709551616)) (w : World) :
    Calls Try.prog 20 #[.int .i64 sz, .int .i64 rm, .int .u64 a, .int .u64 b] w (RetP (divF d rm (readN d a) (readN d b)) w) := by
  obtain ⟨s, hsg⟩ : ∃ s, s = (sgB d a != sgB d b) := ⟨_, rfl⟩
  have HSG : Hid ((sgB d a != sgB d b) = s) := hsg.symm
  clear hsg
  have HR4 : Hid (0 ≤ rm ∧ rm ≤ 4) := by show _ ∧ _; omega
  cases hiA : isInf d a
  · cases hzA : isZero d a
    · have HIA := Lib.hid hiA; have HZA := Lib.hid hzA; clear hiA hzA
      cases hiB : isInf d b
      · cases hzB : isZero d b
        · have HIB := Lib.hid hiB; have HZB := Lib.hid hzB; clear hiB hzB
          obtain ⟨r, f, is, ho⟩ : ∃ r f is, oddV d [a, b] false = (r, f, is) := ⟨_, _, _, rfl⟩
          have HM : Hid (divF d rm (readN d a) (readN d b) = if is then (r, f) else roundR d rm s (ofM d a * 2 ^ 130 / ofM d b) (ofE d a - ofE d b - 130) (decide (ofM d a * 2 ^ 130 % ofM d b ≠ 0))) := by show _ = _; rw [div_ref d rm HR4.out a b, HIA.out, HIB.out, HZA.out, HZB.out, HSG.out]; show (if (oddV d [a, b] false).2.2 = true then ((oddV d [a, b] false).1, (oddV d [a, b] false).2.1) else roundR d rm s (ofM d a * 2 ^ 130 / ofM d b) (ofE d a - ofE d b - 130) (decide (ofM d a * 2 ^ 130 % ofM d b ≠ 0))) = _; rw [ho]
          have HO := Lib.hid ho; clear ho
          go_enter Try.func20, Try.ntmps20
          go_wp2_with fail
          refine (right_s sz d hs rm h5 h3 _).mono ?_; rintro e0 w1 ⟨rfl, bq⟩
          have hbw := bq; clear bq
          go_wp2_with fail
          refine (minused_s sz d hs a ha _).mono ?_; rintro e0 wq ⟨rfl, bq⟩
          replace hbw := hbw.trans (bq.mono hbw.size)
          clear bq
          go_wp2_with fail
          refine (minused_s sz d hs b hb _).mono ?_; rintro e0 wq ⟨rfl, bq⟩
          replace hbw := hbw.trans (bq.mono hbw.size)
          clear bq
          go_wp2_with fail
          have HL := Lib.hid (lst_2 wq a b 22)
          have hbw := hbw.trans ((below_one wq (Obj.cells #[.int .u64 a, .int .u64 b] 22)).mono hbw.size)
          refine (inf_s sz d hs a ha _).mono ?_; rintro e0 wq ⟨rfl, bq⟩
          rw [HIA.out]
          replace HL := Lib.hid (HL.out.below bq)
          replace hbw := hbw.trans (bq.mono hbw.size); clear bq
          go_wp2_with fail
          refine (zero_s sz d hs a ha _).mono ?_; rintro e0 wq ⟨rfl, bq⟩
          rw [HZA.out]
          replace HL := Lib.hid (HL.out.below bq)
          replace hbw := hbw.trans (bq.mono hbw.size)
          clear bq
          go_wp2_with fail
          refine (odd_l sz d hs _ [a, b] _ _ _ HL.out rfl (by simp) (get2 ha.out hb.out)).mono ?_; rintro e0 w9 ⟨rfl, bq⟩
          rw [HO.out]
          replace hbw := hbw.trans (bq.mono hbw.size); clear bq HL
          cases is
          · have HF : Hid (divF d rm (readN d a) (readN d b) = roundR d rm s (ofM d a * 2 ^ 130 / ofM d b) (ofE d a - ofE d b - 130) (decide (ofM d a * 2 ^ 130 % ofM d b ≠ 0))) := HM.out
            go_wp2_with fail
            refine (inf_s sz d hs a ha _).mono ?_; rintro e0 wq ⟨rfl, bq⟩
            rw [HIA.out]
            replace hbw := hbw.trans (bq.mono hbw.size)
            clear bq
            go_wp2_with fail
            refine (inf_s sz d hs b hb _).mono ?_; rintro e0 wq ⟨rfl, bq⟩
            rw [HIB.out]
            replace hbw := hbw.trans (bq.mono hbw.size)
            clear bq
            go_wp2_with fail
            refine (zero_s sz d hs a ha _).mono ?_; rintro e0 wq ⟨rfl, bq⟩
            rw [HZA.out]
            replace hbw := hbw.trans (bq.mono hbw.size)
            clear bq
            go_wp2_with fail
            refine (zero_s sz d hs b hb _).mono ?_; rintro e0 wq ⟨rfl, bq⟩
            rw [HZB.out]
            replace hbw := hbw.trans (bq.mono hbw.size)
            clear bq
            obtain ⟨-, cl1, mg1, ex1⟩ := of_ne1 (odd_no HO.out a (by simp)) HIA.out HZA.out
            obtain ⟨-, cl2, mg2, ex2⟩ := of_ne1 (odd_no HO.out b (by simp)) HIB.out HZB.out
            have HRT := Lib.hid (div_rnd d rm (readN d a) (readN d b) (finR_of d a cl1) (finR_of d b cl2) HR4.out).2
            rw [mg1, mg2] at HRT
            clear cl1 cl2 mg1 mg2 ex1 ex2
            have HCA := Lib.hid (ofN_finQ d a (cls_of (odd_no HO.out a (by simp)) HIA.out))
            have HCB := Lib.hid (ofN_finQ d b (cls_of (odd_no HO.out b (by simp)) HIB.out))
            have HNA := Lib.hid (of_ne (odd_no HO.out a (by simp)) HIA.out HZA.out)
            have HNB := Lib.hid (of_ne (odd_no HO.out b (by simp)) HIB.out HZB.out)
            go_wp2_with fail
            refine (of_s sz d hs a ha _).mono ?_; rintro e0 w10 ⟨g1, n1, p1, rfl, hA1, bq⟩
            replace hbw := hbw.trans (bq.mono hbw.size); clear bq
            have X1 := Lib.hid (atN_new w10 (decide (a / signB d % 2 = 1)) g1 n1 p1 (ofE d a) 57)
            have hA2 := Lib.hid (big_below hA1.out (below_one w10 (Obj.cells #[.bool (decide (a / signB d % 2 = 1)), .slice (some ⟨g1, 0, none⟩) n1 p1, .int .i64 (ofE d a)] 57)) (Nat.le_refl _))
            replace hbw := hbw.trans ((below_one w10 (Obj.cells #[.bool (decide (a / signB d % 2 = 1)), .slice (some ⟨g1, 0, none⟩) n1 p1, .int .i64 (ofE d a)] 57)).mono hbw.size)
            go_wp2_with fail
            refine (of_s sz d hs b hb _).mono ?_; rintro e0 w11 ⟨g2, n2, p2, rfl, hB1, bq⟩
            replace X1 := Lib.hid (X1.out.below bq)
            replace hA2 := Lib.hid (big_below hA2.out bq (Nat.le_refl _))
            replace hbw := hbw.trans (bq.mono hbw.size); clear bq hA1
            go_upto_region 15 with fail
            rename_i K0 k0
            have Y1 := Lib.hid (atN_new w11 (decide (b / signB d % 2 = 1)) g2 n2 p2 (ofE d b) 57)
            have eq1 := below_one w11 (Obj.cells #[.bool (decide (b / signB d % 2 = 1)), .slice (some ⟨g2, 0, none⟩) n2 p2, .int .i64 (ofE d b)] 57)
            replace X1 := Lib.hid (X1.out.below eq1)
            replace hA2 := Lib.hid (big_below hA2.out eq1 (Nat.le_refl _))
            have hB2 := Lib.hid (big_below hB1.out eq1 (Nat.le_refl _))
            replace hbw := hbw.trans (eq1.mono hbw.size); clear eq1 hB1
            have X2 : Hid (AtN (w11.alloc (Obj.cells #[.bool (decide (b / signB d % 2 = 1)), .slice (some ⟨g2, 0, none⟩) n2 p2, .int .i64 (ofE d b)] 57)) w10.heap.size (decide (a / signB d % 2 = 1)) g1 n1 p1 (ofE d a)) := X1
            clear X1
            generalize (w11.alloc (Obj.cells #[Value.bool (decide (b / signB d % 2 = 1)), Value.slice (some ⟨g2, 0, none⟩) n2 p2, Value.int .i64 (ofE d b)] 57)) = w12 at *
            generalize w10.heap.size = B1 at *
            generalize w11.heap.size = B2 at *
            have HB := Lib.hid hbw; have HB2 : Hid (Below w.heap.size w w12.drew) := HB.out.drew; clear hbw
            have q1 := big_len hA2.out (m := 2) (digits_of HCA.out.2.1 (by decide))
            have q2 := big_len hB2.out (m := 2) (digits_of HCB.out.2.1 (by decide))
            obtain ⟨v1, v2, v3, v4⟩ := div_big HNA.out HCB.out.2.1 HCA.out.2.1 HNB.out
            obtain ⟨U, hU0⟩ : ∃ U, ofM d a * 2 ^ 130 = U := ⟨_, rfl⟩
            rw [hU0] at v2 v4 HF HRT
            obtain ⟨V, hV0⟩ : ∃ V, ofM d b = V := ⟨_, rfl⟩
            rw [hV0] at v1 v3 v4 HF HRT hB2
            obtain ⟨mb, hm0⟩ : ∃ mb, decide (U % V ≠ 0) = mb := ⟨_, rfl⟩
            rw [hm0] at HF; have HMB := Lib.hid hm0; clear hm0
            have HU := Lib.hid hU0; have HV1 := Lib.hid v1; have HV2 := Lib.hid v2; have HV3 := Lib.hid v3; have HV4 := Lib.hid v4
            clear v1 v2 v3 v4 hU0 hV0
            have ee1 : -5000 ≤ ofE d a - ofE d b - 130 := by have := HCA.out.2.2.1; have := HCB.out.2.2.2; omega
            have ee2 : ofE d a - ofE d b - 130 ≤ 5000 := by have := HCA.out.2.2.2; have := HCB.out.2.2.1; omega
            have ew : IntKind.i64.wrap (ofE d a - ofE d b) = ofE d a - ofE d b := IntWalk.i64_in _ (by omega)
            have ew2 : IntKind.i64.wrap (ofE d a - ofE d b - 130) = ofE d a - ofE d b - 130 := IntWalk.i64_in _ (by omega)
            have x1 := X2.out.2.2.1; have x2 := X2.out.2.2.2; have y1 := Y1.out.2.2.1; have y2 := Y1.out.2.2.2
            go_region_held3 (fun w' => w'.cell? ⟨B1, 1, none⟩ = some (.slice (some ⟨g1, 0, none⟩) n1 p1) ∧ w'.cell? ⟨B1, 2, none⟩ = some (.int .i64 (ofE d a)) ∧ w'.cell? ⟨B2, 1, none⟩ = some (.slice (some ⟨g2, 0, none⟩) n2 p2) ∧ w'.cell? ⟨B2, 2, none⟩ = some (.int .i64 (ofE d b)) ∧ Hid (AtN w' B1 (decide (a / signB d % 2 = 1)) g1 n1 p1 (ofE d a)) ∧ Hid (AtN w' B2 (decide (b / signB d % 2 = 1)) g2 n2 p2 (ofE d b)) ∧ Hid (IsBig w' g1 n1 p1 (ofM d a)) ∧ Hid (IsBig w' g2 n2 p2 V) ∧ Hid (Below w.heap.size w w')) (refine ⟨?_, ?_, ?_, ?_, ?_, ?_, ?_, ?_, ?_⟩ <;> first | assumption | (go_keep; done)) (first | (go_at_call 56; obtain ⟨-, -, -, -, t1, t2, t3, t4, t5⟩ := ‹_ ∧ _ ∧ _ ∧ _ ∧ Hid (AtN _ B1 _ _ _ _ _) ∧ _›; refine (up_c g1 n1 p1 (ofM d a) 130 _ (raw_hid t3) (by omega) (by omega)).mono ?_; rintro e3 w13 ⟨g3, n3, p3, rfl, hP, b3⟩; rw [HU.out] at hP; have s1 := atN_hb t1 b3; have s2 := atN_hb t2 b3; have s3 := big_hb t3 b3; have s4 := big_hb t4 b3; have s5 := below_hb t5 b3; clear t1 t2 t3 t4 t5; have l3 := big_len hP.out (m := 8) (digits_of HV2.out (by decide)); have z1 := s1.out.2.2.1; have z2 := s1.out.2.2.2; have z3 := s2.out.2.2.1; have z4 := s2.out.2.2.2) | (go_at_call 55; obtain ⟨-, -, -, -, t1, t2, t3, t4, t5⟩ := ‹_ ∧ _ ∧ _ ∧ _ ∧ Hid (AtN _ B1 _ _ _ _ _) ∧ _›; refine (over_m g3 n3 p3 U g2 n2 p2 V mb HMB _ (raw_hid hP) t4 HV1 HV2 HV3 (by omega)).mono ?_; rintro e4 w14 ⟨g4, n4, p4, rfl, hQ, b3⟩; have l4 := big_len hQ.out (m := 6) (digits_of HV4.out (by decide)); have s1 := atN_hb t1 b3; have s2 := atN_hb t2 b3; have s3 := big_hb t3 b3; have s4 := big_hb t4 b3; have s5 := below_hb t5 b3; clear t1 t2 t3 t4 t5; have z1 := s1.out.2.2.1; have z2 := s1.out.2.2.2; have z3 := s2.out.2.2.1; have z4 := s2.out.2.2.2))
            refine k0 _ _ ?_
            go_wp2_with fail
            rw [minus_xor, HSG.out]
            refine (round_s _ sz d hs rm s g4 n4 p4 (U / V) (ofE d a - ofE d b - 130) mb hQ (by omega) (Lib.hid HRT.out.1) (Lib.hid (fun _ => HRT.out.2)) ee1 ee2).mono ?_; rintro e5 w15 ⟨rfl, b5⟩
            have s6 := below_hb s5 b5
            go_wp2_with fail
            go_ret2
            exact retP_mk (by rw [HF.out]) (by rw [HF.out]) s6.out
          · have HF : Hid (divF d rm (readN d a) (readN d b) = (r, f)) := HM.out
            go_wp2_with fail
            go_ret2
            exact retP_mk (by rw [HF.out]) (by rw [HF.out]) hbw
        · have HIB := Lib.hid hiB; have HZB := Lib.hid hzB; clear hiB hzB
          obtain ⟨r, f, is, ho⟩ : ∃ r f is, oddV d [a, b] false = (r, f, is) := ⟨_, _, _, rfl⟩
          have HM : Hid (divF d rm (readN d a) (readN d b) = if is then (r, f) else (infV d s, 8)) := by show _ = _; rw [div_ref d rm HR4.out a b, HIA.out, HIB.out, HZA.out, HZB.out, HSG.out]; show (if (oddV d [a, b] false).2.2 = true then ((oddV d [a, b] false).1, (oddV d [a, b] false).2.1) else (infV d s, 8)) = _; rw [ho]
          have HO := Lib.hid ho; clear ho
          go_enter Try.func20, Try.ntmps20
          go_wp2_with fail
          refine (right_s sz d hs rm h5 h3 _).mono ?_; rintro e0 w1 ⟨rfl, bq⟩
          have hbw := bq; clear bq
          go_wp2_with fail
          refine (minused_s sz d hs a ha _).mono ?_; rintro e0 wq ⟨rfl, bq⟩
          replace hbw := hbw.trans (bq.mono hbw.size)
          clear bq
          go_wp2_with fail
          refine (minused_s sz d hs b hb _).mono ?_; rintro e0 wq ⟨rfl, bq⟩
          replace hbw := hbw.trans (bq.mono hbw.size)
          clear bq
          go_wp2_with fail
          have HL := Lib.hid (lst_2 wq a b 22)
          have hbw := hbw.trans ((below_one wq (Obj.cells #[.int .u64 a, .int .u64 b] 22)).mono hbw.size)
          refine (inf_s sz d hs a ha _).mono ?_; rintro e0 wq ⟨rfl, bq⟩
          rw [HIA.out]
          replace HL := Lib.hid (HL.out.below bq)
          replace hbw := hbw.trans (bq.mono hbw.size); clear bq
          go_wp2_with fail
          refine (zero_s sz d hs a ha _).mono ?_; rintro e0 wq ⟨rfl, bq⟩
          rw [HZA.out]
          replace HL := Lib.hid (HL.out.below bq)
          replace hbw := hbw.trans (bq.mono hbw.size)
          clear bq
          go_wp2_with fail
          refine (odd_l sz d hs _ [a, b] _ _ _ HL.out rfl (by simp) (get2 ha.out hb.out)).mono ?_; rintro e0 w9 ⟨rfl, bq⟩
          rw [HO.out]
          replace hbw := hbw.trans (bq.mono hbw.size); clear bq HL
          cases is
          · have HF : Hid (divF d rm (readN d a) (readN d b) = (infV d s, 8)) := HM.out
            go_wp2_with fail
            refine (inf_s sz d hs a ha _).mono ?_; rintro e0 wq ⟨rfl, bq⟩
            rw [HIA.out]
            replace hbw := hbw.trans (bq.mono hbw.size)
            clear bq
            go_wp2_with fail
            refine (inf_s sz d hs b hb _).mono ?_; rintro e0 wq ⟨rfl, bq⟩
            rw [HIB.out]
            replace hbw := hbw.trans (bq.mono hbw.size)
            clear bq
            go_wp2_with fail
            refine (zero_s sz d hs a ha _).mono ?_; rintro e0 wq ⟨rfl, bq⟩
            rw [HZA.out]
            replace hbw := hbw.trans (bq.mono hbw.size)
            clear bq
            go_wp2_with fail
            refine (zero_s sz d hs b hb _).mono ?_; rintro e0 wq ⟨rfl, bq⟩
            rw [HZB.out]
            replace hbw := hbw.trans (bq.mono hbw.size)
            clear bq
            go_wp2_with fail
            rw [minus_xor, HSG.out]
            refine (infinity_s sz d hs s _).mono ?_; rintro e0 wq ⟨rfl, bq⟩
            replace hbw := hbw.trans (bq.mono hbw.size)
            clear bq
            go_wp2_with fail
            go_ret2
            exact retP_mk (by rw [HF.out]) (by rw [HF.out]) hbw
          · have HF : Hid (divF d rm (readN d a) (readN d b) = (r, f)) := HM.out
            go_wp2_with fail
            go_ret2
            exact retP_mk (by rw [HF.out]) (by rw [HF.out]) hbw
      · have hzB := inf_zero d b hiB
        have HIB := Lib.hid hiB; have HZB := Lib.hid hzB; clear hiB hzB
        obtain ⟨r, f, is, ho⟩ : ∃ r f is, oddV d [a, b] false = (r, f, is) := ⟨_, _, _, rfl⟩
        have HM : Hid (divF d rm (readN d a) (readN d b) = if is then (r, f) else (noughtV d s, 0)) := by show _ = _; rw [div_ref d rm HR4.out a b, HIA.out, HIB.out, HZA.out, HZB.out, HSG.out]; show (if (oddV d [a, b] false).2.2 = true then ((oddV d [a, b] false).1, (oddV d [a, b] false).2.1) else (noughtV d s, 0)) = _; rw [ho]
        have HO := Lib.hid ho; clear ho
        go_enter Try.func20, Try.ntmps20
        go_wp2_with fail
        refine (right_s sz d hs rm h5 h3 _).mono ?_; rintro e0 w1 ⟨rfl, bq⟩
        have hbw := bq; clear bq
        go_wp2_with fail
        refine (minused_s sz d hs a ha _).mono ?_; rintro e0 wq ⟨rfl, bq⟩
        replace hbw := hbw.trans (bq.mono hbw.size)
        clear bq
        go_wp2_with fail
        refine (minused_s sz d hs b hb _).mono ?_; rintro e0 wq ⟨rfl, bq⟩
        replace hbw := hbw.trans (bq.mono hbw.size)
        clear bq
        go_wp2_with fail
        have HL := Lib.hid (lst_2 wq a b 22)
        have hbw := hbw.trans ((below_one wq (Obj.cells #[.int .u64 a, .int .u64 b] 22)).mono hbw.size)
        refine (inf_s sz d hs a ha _).mono ?_; rintro e0 wq ⟨rfl, bq⟩
        rw [HIA.out]
        replace HL := Lib.hid (HL.out.below bq)
        replace hbw := hbw.trans (bq.mono hbw.size); clear bq
        go_wp2_with fail
        refine (zero_s sz d hs a ha _).mono ?_; rintro e0 wq ⟨rfl, bq⟩
        rw [HZA.out]
        replace HL := Lib.hid (HL.out.below bq)
        replace hbw := hbw.trans (bq.mono hbw.size)
        clear bq
        go_wp2_with fail
        refine (odd_l sz d hs _ [a, b] _ _ _ HL.out rfl (by simp) (get2 ha.out hb.out)).mono ?_; rintro e0 w9 ⟨rfl, bq⟩
        rw [HO.out]
        replace hbw := hbw.trans (bq.mono hbw.size); clear bq HL
        cases is
        · have HF : Hid (divF d rm (readN d a) (readN d b) = (noughtV d s, 0)) := HM.out
          go_wp2_with fail
          refine (inf_s sz d hs a ha _).mono ?_; rintro e0 wq ⟨rfl, bq⟩
          rw [HIA.out]
          replace hbw := hbw.trans (bq.mono hbw.size)
          clear bq
          go_wp2_with fail
          refine (inf_s sz d hs b hb _).mono ?_; rintro e0 wq ⟨rfl, bq⟩
          rw [HIB.out]
          replace hbw := hbw.trans (bq.mono hbw.size)
          clear bq
          go_wp2_with fail
          rw [minus_xor, HSG.out]
          refine (nought_s sz d hs s _).mono ?_; rintro e0 wq ⟨rfl, h8⟩; replace h8 := h8.symm; subst h8
          go_wp2_with fail
          go_ret2
          exact retP_mk (by rw [HF.out]) (by rw [HF.out]) hbw
        · have HF : Hid (divF d rm (readN d a) (readN d b) = (r, f)) := HM.out
          go_wp2_with fail
          go_ret2
          exact retP_mk (by rw [HF.out]) (by rw [HF.out]) hbw
    · have HIA := Lib.hid hiA; have HZA := Lib.hid hzA; clear hiA hzA
      cases hiB : isInf d b
      · cases hzB : isZero d b
        · have HIB := Lib.hid hiB; have HZB := Lib.hid hzB; clear hiB hzB
          obtain ⟨r, f, is, ho⟩ : ∃ r f is, oddV d [a, b] false = (r, f, is) := ⟨_, _, _, rfl⟩
          have HM : Hid (divF d rm (readN d a) (readN d b) = if is then (r, f) else (noughtV d s, 0)) := by show _ = _; rw [div_ref d rm HR4.out a b, HIA.out, HIB.out, HZA.out, HZB.out, HSG.out]; show (if (oddV d [a, b] false).2.2 = true then ((oddV d [a, b] false).1, (oddV d [a, b] false).2.1) else (noughtV d s, 0)) = _; rw [ho]
          have HO := Lib.hid ho; clear ho
          go_enter Try.func20, Try.ntmps20
          go_wp2_with fail
          refine (right_s sz d hs rm h5 h3 _).mono ?_; rintro e0 w1 ⟨rfl, bq⟩
          have hbw := bq; clear bq
          go_wp2_with fail
          refine (minused_s sz d hs a ha _).mono ?_; rintro e0 wq ⟨rfl, bq⟩
          replace hbw := hbw.trans (bq.mono hbw.size)
          clear bq
          go_wp2_with fail
          refine (minused_s sz d hs b hb _).mono ?_; rintro e0 wq ⟨rfl, bq⟩
          replace hbw := hbw.trans (bq.mono hbw.size)
          clear bq
          go_wp2_with fail
          have HL := Lib.hid (lst_2 wq a b 22)
          have hbw := hbw.trans ((below_one wq (Obj.cells #[.int .u64 a, .int .u64 b] 22)).mono hbw.size)
          refine (inf_s sz d hs a ha _).mono ?_; rintro e0 wq ⟨rfl, bq⟩
          rw [HIA.out]
          replace HL := Lib.hid (HL.out.below bq)
          replace hbw := hbw.trans (bq.mono hbw.size); clear bq
          go_wp2_with fail
          refine (zero_s sz d hs a ha _).mono ?_; rintro e0 wq ⟨rfl, bq⟩
          rw [HZA.out]
          replace HL := Lib.hid (HL.out.below bq)
          replace hbw := hbw.trans (bq.mono hbw.size)
          clear bq
          go_wp2_with fail
          refine (zero_s sz d hs b hb _).mono ?_; rintro e0 wq ⟨rfl, bq⟩
          rw [HZB.out]
          replace HL := Lib.hid (HL.out.below bq)
          replace hbw := hbw.trans (bq.mono hbw.size)
          clear bq
          go_wp2_with fail
          refine (odd_l sz d hs _ [a, b] _ _ _ HL.out rfl (by simp) (get2 ha.out hb.out)).mono ?_; rintro e0 w9 ⟨rfl, bq⟩
          rw [HO.out]
          replace hbw := hbw.trans (bq.mono hbw.size); clear bq HL
          cases is
          · have HF : Hid (divF d rm (readN d a) (readN d b) = (noughtV d s, 0)) := HM.out
            go_wp2_with fail
            refine (inf_s sz d hs a ha _).mono ?_; rintro e0 wq ⟨rfl, bq⟩
            rw [HIA.out]
            replace hbw := hbw.trans (bq.mono hbw.size)
            clear bq
            go_wp2_with fail
            refine (inf_s sz d hs b hb _).mono ?_; rintro e0 wq ⟨rfl, bq⟩
            rw [HIB.out]
            replace hbw := hbw.trans (bq.mono hbw.size)
            clear bq
            go_wp2_with fail
            refine (zero_s sz d hs a ha _).mono ?_; rintro e0 wq ⟨rfl, bq⟩
            rw [HZA.out]
            replace hbw := hbw.trans (bq.mono hbw.size)
            clear bq
            go_wp2_with fail
            rw [minus_xor, HSG.out]
            refine (nought_s sz d hs s _).mono ?_; rintro e0 wq ⟨rfl, h8⟩; replace h8 := h8.symm; subst h8
            go_wp2_with fail
            go_ret2
            exact retP_mk (by rw [HF.out]) (by rw [HF.out]) hbw
          · have HF : Hid (divF d rm (readN d a) (readN d b) = (r, f)) := HM.out
            go_wp2_with fail
            go_ret2
            exact retP_mk (by rw [HF.out]) (by rw [HF.out]) hbw
        · have HIB := Lib.hid hiB; have HZB := Lib.hid hzB; clear hiB hzB
          obtain ⟨r, f, is, ho⟩ : ∃ r f is, oddV d [a, b] true = (r, f, is) := ⟨_, _, _, rfl⟩
          have HM : Hid (divF d rm (readN d a) (readN d b) = if is then (r, f) else (noughtV d s, 0)) := by show _ = _; rw [div_ref d rm HR4.out a b, HIA.out, HIB.out, HZA.out, HZB.out, HSG.out]; show (if (oddV d [a, b] true).2.2 = true then ((oddV d [a, b] true).1, (oddV d [a, b] true).2.1) else (noughtV d s, 0)) = _; rw [ho]
          have HO := Lib.hid ho; clear ho
          go_enter Try.func20, Try.ntmps20
          go_wp2_with fail
          refine (right_s sz d hs rm h5 h3 _).mono ?_; rintro e0 w1 ⟨rfl, bq⟩
          have hbw := bq; clear bq
          go_wp2_with fail
          refine (minused_s sz d hs a ha _).mono ?_; rintro e0 wq ⟨rfl, bq⟩
          replace hbw := hbw.trans (bq.mono hbw.size)
          clear bq
          go_wp2_with fail
          refine (minused_s sz d hs b hb _).mono ?_; rintro e0 wq ⟨rfl, bq⟩
          replace hbw := hbw.trans (bq.mono hbw.size)
          clear bq
          go_wp2_with fail
          have HL := Lib.hid (lst_2 wq a b 22)
          have hbw := hbw.trans ((below_one wq (Obj.cells #[.int .u64 a, .int .u64 b] 22)).mono hbw.size)
          refine (inf_s sz d hs a ha _).mono ?_; rintro e0 wq ⟨rfl, bq⟩
          rw [HIA.out]
          replace HL := Lib.hid (HL.out.below bq)
          replace hbw := hbw.trans (bq.mono hbw.size); clear bq
          go_wp2_with fail
          refine (zero_s sz d hs a ha _).mono ?_; rintro e0 wq ⟨rfl, bq⟩
          rw [HZA.out]
          replace HL := Lib.hid (HL.out.below bq)
          replace hbw := hbw.trans (bq.mono hbw.size)
          clear bq
          go_wp2_with fail
          refine (zero_s sz d hs b hb _).mono ?_; rintro e0 wq ⟨rfl, bq⟩
          rw [HZB.out]
          replace HL := Lib.hid (HL.out.below bq)
          replace hbw := hbw.trans (bq.mono hbw.size)
          clear bq
          go_wp2_with fail
          refine (odd_l sz d hs _ [a, b] _ _ _ HL.out rfl (by simp) (get2 ha.out hb.out)).mono ?_; rintro e0 w9 ⟨rfl, bq⟩
          rw [HO.out]
          replace hbw := hbw.trans (bq.mono hbw.size); clear bq HL
          cases is
          · have HF : Hid (divF d rm (readN d a) (readN d b) = (noughtV d s, 0)) := HM.out
            go_wp2_with fail
            refine (inf_s sz d hs a ha _).mono ?_; rintro e0 wq ⟨rfl, bq⟩
            rw [HIA.out]
            replace hbw := hbw.trans (bq.mono hbw.size)
            clear bq
            go_wp2_with fail
            refine (inf_s sz d hs b hb _).mono ?_; rintro e0 wq ⟨rfl, bq⟩
            rw [HIB.out]
            replace hbw := hbw.trans (bq.mono hbw.size)
            clear bq
            go_wp2_with fail
            refine (zero_s sz d hs a ha _).mono ?_; rintro e0 wq ⟨rfl, bq⟩
            rw [HZA.out]
            replace hbw := hbw.trans (bq.mono hbw.size)
            clear bq
            go_wp2_with fail
            rw [minus_xor, HSG.out]
            refine (nought_s sz d hs s _).mono ?_; rintro e0 wq ⟨rfl, h8⟩; replace h8 := h8.symm; subst h8
            go_wp2_with fail
            go_ret2
            exact retP_mk (by rw [HF.out]) (by rw [HF.out]) hbw
          · have HF : Hid (divF d rm (readN d a) (readN d b) = (r, f)) := HM.out
            go_wp2_with fail
            go_ret2
            exact retP_mk (by rw [HF.out]) (by rw [HF.out]) hbw
      · have hzB := inf_zero d b hiB
        have HIB := Lib.hid hiB; have HZB := Lib.hid hzB; clear hiB hzB
        obtain ⟨r, f, is, ho⟩ : ∃ r f is, oddV d [a, b] false = (r, f, is) := ⟨_, _, _, rfl⟩
        have HM : Hid (divF d rm (readN d a) (readN d b) = if is then (r, f) else (noughtV d s, 0)) := by show _ = _; rw [div_ref d rm HR4.out a b, HIA.out, HIB.out, HZA.out, HZB.out, HSG.out]; show (if (oddV d [a, b] false).2.2 = true then ((oddV d [a, b] false).1, (oddV d [a, b] false).2.1) else (noughtV d s, 0)) = _; rw [ho]
        have HO := Lib.hid ho; clear ho
        go_enter Try.func20, Try.ntmps20
        go_wp2_with fail
        refine (right_s sz d hs rm h5 h3 _).mono ?_; rintro e0 w1 ⟨rfl, bq⟩
        have hbw := bq; clear bq
        go_wp2_with fail
        refine (minused_s sz d hs a ha _).mono ?_; rintro e0 wq ⟨rfl, bq⟩
        replace hbw := hbw.trans (bq.mono hbw.size)
        clear bq
        go_wp2_with fail
        refine (minused_s sz d hs b hb _).mono ?_; rintro e0 wq ⟨rfl, bq⟩
        replace hbw := hbw.trans (bq.mono hbw.size)
        clear bq
        go_wp2_with fail
        have HL := Lib.hid (lst_2 wq a b 22)
        have hbw := hbw.trans ((below_one wq (Obj.cells #[.int .u64 a, .int .u64 b] 22)).mono hbw.size)
        refine (inf_s sz d hs a ha _).mono ?_; rintro e0 wq ⟨rfl, bq⟩
        rw [HIA.out]
        replace HL := Lib.hid (HL.out.below bq)
        replace hbw := hbw.trans (bq.mono hbw.size); clear bq
        go_wp2_with fail
        refine (zero_s sz d hs a ha _).mono ?_; rintro e0 wq ⟨rfl, bq⟩
        rw [HZA.out]
        replace HL := Lib.hid (HL.out.below bq)
        replace hbw := hbw.trans (bq.mono hbw.size)
        clear bq
        go_wp2_with fail
        refine (zero_s sz d hs b hb _).mono ?_; rintro e0 wq ⟨rfl, bq⟩
        rw [HZB.out]
        replace HL := Lib.hid (HL.out.below bq)
        replace hbw := hbw.trans (bq.mono hbw.size)
        clear bq
        go_wp2_with fail
        refine (odd_l sz d hs _ [a, b] _ _ _ HL.out rfl (by simp) (get2 ha.out hb.out)).mono ?_; rintro e0 w9 ⟨rfl, bq⟩
        rw [HO.out]
        replace hbw := hbw.trans (bq.mono hbw.size); clear bq HL
        cases is
        · have HF : Hid (divF d rm (readN d a) (readN d b) = (noughtV d s, 0)) := HM.out
          go_wp2_with fail
          refine (inf_s sz d hs a ha _).mono ?_; rintro e0 wq ⟨rfl, bq⟩
          rw [HIA.out]
          replace hbw := hbw.trans (bq.mono hbw.size)
          clear bq
          go_wp2_with fail
          refine (inf_s sz d hs b hb _).mono ?_; rintro e0 wq ⟨rfl, bq⟩
          rw [HIB.out]
          replace hbw := hbw.trans (bq.mono hbw.size)
          clear bq
          go_wp2_with fail
          rw [minus_xor, HSG.out]
          refine (nought_s sz d hs s _).mono ?_; rintro e0 wq ⟨rfl, h8⟩; replace h8 := h8.symm; subst h8
          go_wp2_with fail
          go_ret2
          exact retP_mk (by rw [HF.out]) (by rw [HF.out]) hbw
        · have HF : Hid (divF d rm (readN d a) (readN d b) = (r, f)) := HM.out
          go_wp2_with fail
          go_ret2
          exact retP_mk (by rw [HF.out]) (by rw [HF.out]) hbw
  · have hzA := inf_zero d a hiA
    have HIA := Lib.hid hiA; have HZA := Lib.hid hzA; clear hiA hzA
    cases hiB : isInf d b
    · cases hzB : isZero d b
      · have HIB := Lib.hid hiB; have HZB := Lib.hid hzB; clear hiB hzB
        obtain ⟨r, f, is, ho⟩ : ∃ r f is, oddV d [a, b] false = (r, f, is) := ⟨_, _, _, rfl⟩
        have HM : Hid (divF d rm (readN d a) (readN d b) = if is then (r, f) else (infV d s, 0)) := by show _ = _; rw [div_ref d rm HR4.out a b, HIA.out, HIB.out, HZA.out, HZB.out, HSG.out]; show (if (oddV d [a, b] false).2.2 = true then ((oddV d [a, b] false).1, (oddV d [a, b] false).2.1) else (infV d s, 0)) = _; rw [ho]
        have HO := Lib.hid ho; clear ho
        go_enter Try.func20, Try.ntmps20
        go_wp2_with fail
        refine (right_s sz d hs rm h5 h3 _).mono ?_; rintro e0 w1 ⟨rfl, bq⟩
        have hbw := bq; clear bq
        go_wp2_with fail
        refine (minused_s sz d hs a ha _).mono ?_; rintro e0 wq ⟨rfl, bq⟩
        replace hbw := hbw.trans (bq.mono hbw.size)
        clear bq
        go_wp2_with fail
        refine (minused_s sz d hs b hb _).mono ?_; rintro e0 wq ⟨rfl, bq⟩
        replace hbw := hbw.trans (bq.mono hbw.size)
        clear bq
        go_wp2_with fail
        have HL := Lib.hid (lst_2 wq a b 22)
        have hbw := hbw.trans ((below_one wq (Obj.cells #[.int .u64 a, .int .u64 b] 22)).mono hbw.size)
        refine (inf_s sz d hs a ha _).mono ?_; rintro e0 wq ⟨rfl, bq⟩
        rw [HIA.out]
        replace HL := Lib.hid (HL.out.below bq)
        replace hbw := hbw.trans (bq.mono hbw.size); clear bq
        go_wp2_with fail
        refine (inf_s sz d hs b hb _).mono ?_; rintro e0 wq ⟨rfl, bq⟩
        rw [HIB.out]
        replace HL := Lib.hid (HL.out.below bq)
        replace hbw := hbw.trans (bq.mono hbw.size)
        clear bq
        go_wp2_with fail
        refine (zero_s sz d hs a ha _).mono ?_; rintro e0 wq ⟨rfl, bq⟩
        rw [HZA.out]
        replace HL := Lib.hid (HL.out.below bq)
        replace hbw := hbw.trans (bq.mono hbw.size)
        clear bq
        go_wp2_with fail
        refine (odd_l sz d hs _ [a, b] _ _ _ HL.out rfl (by simp) (get2 ha.out hb.out)).mono ?_; rintro e0 w9 ⟨rfl, bq⟩
        rw [HO.out]
        replace hbw := hbw.trans (bq.mono hbw.size); clear bq HL
        cases is
        · have HF : Hid (divF d rm (readN d a) (readN d b) = (infV d s, 0)) := HM.out
          go_wp2_with fail
          refine (inf_s sz d hs a ha _).mono ?_; rintro e0 wq ⟨rfl, bq⟩
          rw [HIA.out]
          replace hbw := hbw.trans (bq.mono hbw.size)
          clear bq
          go_wp2_with fail
          rw [minus_xor, HSG.out]
          refine (infinity_s sz d hs s _).mono ?_; rintro e0 wq ⟨rfl, bq⟩
          replace hbw := hbw.trans (bq.mono hbw.size)
          clear bq
          go_wp2_with fail
          go_ret2
          exact retP_mk (by rw [HF.out]) (by rw [HF.out]) hbw
        · have HF : Hid (divF d rm (readN d a) (readN d b) = (r, f)) := HM.out
          go_wp2_with fail
          go_ret2
          exact retP_mk (by rw [HF.out]) (by rw [HF.out]) hbw
      · have HIB := Lib.hid hiB; have HZB := Lib.hid hzB; clear hiB hzB
        obtain ⟨r, f, is, ho⟩ : ∃ r f is, oddV d [a, b] false = (r, f, is) := ⟨_, _, _, rfl⟩
        have HM : Hid (divF d rm (readN d a) (readN d b) = if is then (r, f) else (infV d s, 0)) := by show _ = _; rw [div_ref d rm HR4.out a b, HIA.out, HIB.out, HZA.out, HZB.out, HSG.out]; show (if (oddV d [a, b] false).2.2 = true then ((oddV d [a, b] false).1, (oddV d [a, b] false).2.1) else (infV d s, 0)) = _; rw [ho]
        have HO := Lib.hid ho; clear ho
        go_enter Try.func20, Try.ntmps20
        go_wp2_with fail
        refine (right_s sz d hs rm h5 h3 _).mono ?_; rintro e0 w1 ⟨rfl, bq⟩
        have hbw := bq; clear bq
        go_wp2_with fail
        refine (minused_s sz d hs a ha _).mono ?_; rintro e0 wq ⟨rfl, bq⟩
        replace hbw := hbw.trans (bq.mono hbw.size)
        clear bq
        go_wp2_with fail
        refine (minused_s sz d hs b hb _).mono ?_; rintro e0 wq ⟨rfl, bq⟩
        replace hbw := hbw.trans (bq.mono hbw.size)
        clear bq
        go_wp2_with fail
        have HL := Lib.hid (lst_2 wq a b 22)
        have hbw := hbw.trans ((below_one wq (Obj.cells #[.int .u64 a, .int .u64 b] 22)).mono hbw.size)
        refine (inf_s sz d hs a ha _).mono ?_; rintro e0 wq ⟨rfl, bq⟩
        rw [HIA.out]
        replace HL := Lib.hid (HL.out.below bq)
        replace hbw := hbw.trans (bq.mono hbw.size); clear bq
        go_wp2_with fail
        refine (inf_s sz d hs b hb _).mono ?_; rintro e0 wq ⟨rfl, bq⟩
        rw [HIB.out]
        replace HL := Lib.hid (HL.out.below bq)
        replace hbw := hbw.trans (bq.mono hbw.size)
        clear bq
        go_wp2_with fail
        refine (zero_s sz d hs a ha _).mono ?_; rintro e0 wq ⟨rfl, bq⟩
        rw [HZA.out]
        replace HL := Lib.hid (HL.out.below bq)
        replace hbw := hbw.trans (bq.mono hbw.size)
        clear bq
        go_wp2_with fail
        refine (odd_l sz d hs _ [a, b] _ _ _ HL.out rfl (by simp) (get2 ha.out hb.out)).mono ?_; rintro e0 w9 ⟨rfl, bq⟩
        rw [HO.out]
        replace hbw := hbw.trans (bq.mono hbw.size); clear bq HL
        cases is
        · have HF : Hid (divF d rm (readN d a) (readN d b) = (infV d s, 0)) := HM.out
          go_wp2_with fail
          refine (inf_s sz d hs a ha _).mono ?_; rintro e0 wq ⟨rfl, bq⟩
          rw [HIA.out]
          replace hbw := hbw.trans (bq.mono hbw.size)
          clear bq
          go_wp2_with fail
          rw [minus_xor, HSG.out]
          refine (infinity_s sz d hs s _).mono ?_; rintro e0 wq ⟨rfl, bq⟩
          replace hbw := hbw.trans (bq.mono hbw.size)
          clear bq
          go_wp2_with fail
          go_ret2
          exact retP_mk (by rw [HF.out]) (by rw [HF.out]) hbw
        · have HF : Hid (divF d rm (readN d a) (readN d b) = (r, f)) := HM.out
          go_wp2_with fail
          go_ret2
          exact retP_mk (by rw [HF.out]) (by rw [HF.out]) hbw
    · have hzB := inf_zero d b hiB
      have HIB := Lib.hid hiB; have HZB := Lib.hid hzB; clear hiB hzB
      obtain ⟨r, f, is, ho⟩ : ∃ r f is, oddV d [a, b] true = (r, f, is) := ⟨_, _, _, rfl⟩
      have HM : Hid (divF d rm (readN d a) (readN d b) = if is then (r, f) else (infV d s, 0)) := by show _ = _; rw [div_ref d rm HR4.out a b, HIA.out, HIB.out, HZA.out, HZB.out, HSG.out]; show (if (oddV d [a, b] true).2.2 = true then ((oddV d [a, b] true).1, (oddV d [a, b] true).2.1) else (infV d s, 0)) = _; rw [ho]
      have HO := Lib.hid ho; clear ho
      go_enter Try.func20, Try.ntmps20
      go_wp2_with fail
      refine (right_s sz d hs rm h5 h3 _).mono ?_; rintro e0 w1 ⟨rfl, bq⟩
      have hbw := bq; clear bq
      go_wp2_with fail
      refine (minused_s sz d hs a ha _).mono ?_; rintro e0 wq ⟨rfl, bq⟩
      replace hbw := hbw.trans (bq.mono hbw.size)
      clear bq
      go_wp2_with fail
      refine (minused_s sz d hs b hb _).mono ?_; rintro e0 wq ⟨rfl, bq⟩
      replace hbw := hbw.trans (bq.mono hbw.size)
      clear bq
      go_wp2_with fail
      have HL := Lib.hid (lst_2 wq a b 22)
      have hbw := hbw.trans ((below_one wq (Obj.cells #[.int .u64 a, .int .u64 b] 22)).mono hbw.size)
      refine (inf_s sz d hs a ha _).mono ?_; rintro e0 wq ⟨rfl, bq⟩
      rw [HIA.out]
      replace HL := Lib.hid (HL.out.below bq)
      replace hbw := hbw.trans (bq.mono hbw.size); clear bq
      go_wp2_with fail
      refine (inf_s sz d hs b hb _).mono ?_; rintro e0 wq ⟨rfl, bq⟩
      rw [HIB.out]
      replace HL := Lib.hid (HL.out.below bq)
      replace hbw := hbw.trans (bq.mono hbw.size)
      clear bq
      go_wp2_with fail
      refine (odd_l sz d hs _ [a, b] _ _ _ HL.out rfl (by simp) (get2 ha.out hb.out)).mono ?_; rintro e0 w9 ⟨rfl, bq⟩
      rw [HO.out]
      replace hbw := hbw.trans (bq.mono hbw.size); clear bq HL
      cases is
      · have HF : Hid (divF d rm (readN d a) (readN d b) = (infV d s, 0)) := HM.out
        go_wp2_with fail
        refine (inf_s sz d hs a ha _).mono ?_; rintro e0 wq ⟨rfl, bq⟩
        rw [HIA.out]
        replace hbw := hbw.trans (bq.mono hbw.size)
        clear bq
        go_wp2_with fail
        rw [minus_xor, HSG.out]
        refine (infinity_s sz d hs s _).mono ?_; rintro e0 wq ⟨rfl, bq⟩
        replace hbw := hbw.trans (bq.mono hbw.size)
        clear bq
        go_wp2_with fail
        go_ret2
        exact retP_mk (by rw [HF.out]) (by rw [HF.out]) hbw
      · have HF : Hid (divF d rm (readN d a) (readN d b) = (r, f)) := HM.out
        go_wp2_with fail
        go_ret2
        exact retP_mk (by rw [HF.out]) (by rw [HF.out]) hbw
end Go.Proofs.Ytmdgfddiniapfaa
