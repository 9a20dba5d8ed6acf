/- The reference's Sqrt. -/
import Derived.Test.YtmdgfddiniapfaaK18
namespace Go.Proofs.Ytmdgfddiniapfaa
open Go.ChangeShapes Go.WideShapes Go.ChangeAt Go.RowKit
set_option linter.unusedVariables false
set_option linter.unusedSimpArgs false
theorem sqrt_ex : ∀ A : Nat, ∃ R, R * R ≤ A ∧ A < (R + 1) * (R + 1)
  | 0 => ⟨0, by decide, by decide⟩
  | A + 1 => by
    obtain ⟨R, h1, h2⟩ := sqrt_ex A
    by_cases h : (R + 1) * (R + 1) ≤ A + 1
    · refine ⟨R + 1, h, ?_⟩
      have : (R + 1 + 1) * (R + 1 + 1) = (R + 1) * (R + 1) + 2 * (R + 1) + 1 := by rw [Nat.add_mul (R + 1) 1, Nat.mul_add (R + 1) (R + 1) 1]; omega
      omega
    · exact ⟨R, by omega, by omega⟩
theorem of_ne1 {d : Bool} {a : Nat} (hn : nanB d a = false) (hi : isInf d a = false) (hz : isZero d a = false) : ofM d a ≠ 0 ∧ (readN d a).cls = 1 ∧ (readN d a).mag = ofM d a ∧ (readN d a).exp = ofE d a := by
  obtain ⟨hc, -⟩ := class_cases d a
  rcases hc with ⟨h, h1, h2, -⟩ | ⟨h, h1, -⟩ | ⟨h, h1, -⟩ | ⟨h, -, -, -, -, h1, h2⟩ | ⟨h, -, -, h1, -⟩
  · rw [h2] at hi; cases hi
  · rw [h1] at hn; cases hn
  · rw [h1] at hn; cases hn
  · refine ⟨?_, h, h1, h2⟩; rw [← h1]; exact (readN_fin d a h).1
  · rw [h1] at hz; cases hz
theorem inf_zero1 (d : Bool) (a : Nat) (h : isInf d a = true) : isZero d a = false ∧ nanB d a = false := by
  obtain ⟨hc, -⟩ := class_cases d a
  rcases hc with ⟨-, h1, h2, h3, -⟩ | ⟨-, h1, h2, h3, -⟩ | ⟨-, h1, h2, h3, -⟩ | ⟨-, h1, h2, h3, -⟩ | ⟨-, h1, h2, h3, -⟩ <;> first | exact ⟨h3, h1⟩ | (rw [h2] at h; cases h)
theorem raw_hid1 {w : World} {g n p A : Nat} (h : Hid (IsBig w g n p A)) : Hid (IsRaw w g n p A) := h.out.1
theorem root_low {R M p : Nat} (h : R * R ≤ M * 2 ^ p) (hM : M * 2 ^ p < 2 ^ 240) : R < 2 ^ 120 := by
  apply Classical.byContradiction; intro q
  have q1 := Nat.mul_le_mul (Nat.le_of_not_lt q) (Nat.le_of_not_lt q)
  have q2 : 2 ^ 120 * 2 ^ 120 = 2 ^ 240 := by rw [← Nat.pow_add]
  omega
set_option maxRecDepth 100000 in
set_option maxHeartbeats 16000000 in
theorem Sqrt_r (sz : Int) (d : Bool) (hs : Hid (Sz sz d)) (rm : Int) (h5 : 0 ≤ rm) (h3 : rm < 5) (a : Nat) (ha : Hid (a < 18446744073709551616)) (w : World) :
    Calls Try.prog 22 #[.int .i64 sz, .int .i64 rm, .int .u64 a] w (RetP (sqrtF d rm (readN d a)) w) := by
  obtain ⟨R, hR⟩ := sqrt_ex (ofM d a * 2 ^ rootP (ofE d a))
  have HRR : Hid (isZero d a = false → isInf d a = false → nanB d a = false → R * R ≤ ofM d a * 2 ^ rootP (ofE d a) ∧ ofM d a * 2 ^ rootP (ofE d a) < (R + 1) * (R + 1)) := fun _ _ _ => hR
  clear hR
  have HR4 : Hid (0 ≤ rm ∧ rm ≤ 4) := by show _ ∧ _; omega
  cases hi : isInf d a
  · cases hn : nanB d a
    · cases hz : isZero d a
      · cases hm : decide (a / signB d % 2 = 1)
        · have HNA := Lib.hid hn; have HSA := Lib.hid hm; have HZA := Lib.hid hz; have HIA := Lib.hid hi; clear hn hm hz hi
          obtain ⟨r, f, is, ho⟩ : ∃ r f is, oddV d [a] false = (r, f, is) := ⟨_, _, _, rfl⟩
          have HM : Hid (sqrtF d rm (readN d a) = if is then (r, f) else roundR d rm false R ((ofE d a - rootP (ofE d a)) / 2) (decide (R * R < ofM d a * 2 ^ rootP (ofE d a)))) := by show _ = _; rw [sqrt_ref d rm HR4.out a ha.out R HRR.out, HNA.out, (show sgB d a = _ from HSA.out), HIA.out, HZA.out]; show (if (oddV d [a] false).2.2 = true then ((oddV d [a] false).1, (oddV d [a] false).2.1) else roundR d rm false R ((ofE d a - rootP (ofE d a)) / 2) (decide (R * R < ofM d a * 2 ^ rootP (ofE d a)))) = _; rw [ho]
          have HO := Lib.hid ho; clear ho
          go_enter Try.func22, Try.ntmps22
          go_wp2_with fail
          refine (right_s sz d hs rm h5 h3 _).mono ?_; rintro e0 w1 ⟨rfl, bq⟩
          have hbw := bq; clear bq
          go_wp2_with fail
          have HL := Lib.hid (lst_1 w1 a 22)
          replace hbw := hbw.trans ((below_one w1 (Obj.cells #[.int .u64 a] 22)).mono hbw.size)
          refine (nan_s sz d hs a ha _).mono ?_; rintro e0 wq ⟨rfl, bq⟩
          rw [HNA.out]
          replace HL := Lib.hid (HL.out.below bq)
          replace hbw := hbw.trans (bq.mono hbw.size); clear bq
          go_wp2_with fail
          refine (minused_s sz d hs a ha _).mono ?_; rintro e0 wq ⟨rfl, bq⟩
          rw [HSA.out]
          replace HL := Lib.hid (HL.out.below bq)
          replace hbw := hbw.trans (bq.mono hbw.size)
          clear bq
          go_wp2_with fail
          refine (odd_l sz d hs _ [a] _ _ _ HL.out rfl (by simp) (get1 ha.out)).mono ?_; rintro e0 w9 ⟨rfl, bq⟩
          rw [HO.out]
          replace hbw := hbw.trans (bq.mono hbw.size); clear bq HL
          cases is
          · have HF : Hid (sqrtF d rm (readN d a) = roundR d rm false R ((ofE d a - rootP (ofE d a)) / 2) (decide (R * R < ofM d a * 2 ^ rootP (ofE d a)))) := HM.out
            go_wp2_with fail
            refine (inf_s sz d hs a ha _).mono ?_; rintro e0 wq ⟨rfl, bq⟩
            rw [HIA.out]
            replace hbw := hbw.trans (bq.mono hbw.size)
            clear bq
            go_wp2_with fail
            refine (zero_s sz d hs a ha _).mono ?_; rintro e0 wq ⟨rfl, bq⟩
            rw [HZA.out]
            replace hbw := hbw.trans (bq.mono hbw.size)
            clear bq
            obtain ⟨ne0, cl1, mg1, ex1⟩ := of_ne1 HNA.out HIA.out HZA.out
            have HCA := Lib.hid (ofN_finQ d a (by rw [cl1]; decide))
            have HRT := Lib.hid (root_rnd d rm (readN d a) (finR_of d a cl1) HR4.out R (by rw [mg1, ex1]; exact HRR.out HZA.out HIA.out HNA.out)).2
            have HRD := Lib.hid (HRR.out HZA.out HIA.out HNA.out)
            have HNE := Lib.hid ne0; clear ne0 cl1 mg1 ex1
            go_wp2_with fail
            refine (of_s sz d hs a ha _).mono ?_; rintro e0 w10 ⟨g1, n1, p1, rfl, hA1, bq⟩
            replace hbw := hbw.trans (bq.mono hbw.size); clear bq
            have X1 := Lib.hid (atN_new w10 (decide (a / signB d % 2 = 1)) g1 n1 p1 (ofE d a) 57)
            have hA2 := Lib.hid (big_below hA1.out (below_one w10 (Obj.cells #[.bool (decide (a / signB d % 2 = 1)), .slice (some ⟨g1, 0, none⟩) n1 p1, .int .i64 (ofE d a)] 57)) (Nat.le_refl _))
            replace hbw := hbw.trans ((below_one w10 (Obj.cells #[.bool (decide (a / signB d % 2 = 1)), .slice (some ⟨g1, 0, none⟩) n1 p1, .int .i64 (ofE d a)] 57)).mono hbw.size)
            clear hA1
            have q1 := big_len hA2.out (m := 2) (digits_of HCA.out.2.1 (by decide))
            have ea1 : -1074 ≤ ofE d a := HCA.out.2.2.1
            have ea2 : ofE d a ≤ 971 := HCA.out.2.2.2
            have HML : Hid (ofM d a < 2 ^ 53) := HCA.out.2.1
            have B1 : Hid (Below w.heap.size w (w10.alloc (Obj.cells #[.bool (decide (a / signB d % 2 = 1)), .slice (some ⟨g1, 0, none⟩) n1 p1, .int .i64 (ofE d a)] 57))) := hbw
            clear hbw
            go_upto_region 9 with fail
            generalize (w10.alloc (Obj.cells #[Value.bool (decide (a / signB d % 2 = 1)), Value.slice (some ⟨g1, 0, none⟩) n1 p1, Value.int .i64 (ofE d a)] 57)) = w11 at *
            generalize w10.heap.size = B2 at *
            by_cases hev : ofE d a % 2 = 0
            · obtain ⟨F, hF⟩ : ∃ F, ofE d a - 160 = 2 * F := ⟨(ofE d a - 160) / 2, by omega⟩
              have hq : (2 * F).tdiv 2 = F := Int.mul_tdiv_cancel_left _ (by decide)
              have hq2 : (ofE d a - ((160 : Nat) : Int)) / 2 = F := by omega
              have hP : rootP (ofE d a) = 160 := if_pos hev
              rw [hP] at HF HRD
              have HF2 : Hid (sqrtF d rm (readN d a) = roundR d rm false R F (decide (R * R < ofM d a * 2 ^ 160))) := by show _ = _; rw [HF.out, hq2]
              have ht : ((ofE d a).tmod 2 != 0) = false := by rw [tmod_even hev]; rfl
              have HT := Lib.hid ht
              have HUL : Hid (ofM d a * 2 ^ 160 < 2 ^ 240) := by show _ < _; exact Nat.lt_of_lt_of_le (pow_lt HML.out) (Nat.pow_le_pow_right (by decide) (by decide))
              have HR2 : Hid (R < 2 ^ 120) := root_low HRD.out.1 HUL.out
              have hf1 : -5000 ≤ F := by omega
              have hf2 : F ≤ 5000 := by omega
              have hw1 : wrap64 (ofE d a - 160) = 2 * F := by rw [← hF]; exact IntWalk.wrap64_in _ (by omega)
              have hw2 : wrap64 F = F := IntWalk.wrap64_in _ (by omega)
              have HHQ := Lib.hid hq; have HW1 := Lib.hid hw1; have HW2 := Lib.hid hw2
              have hq3 : (ofE d a - 160).tdiv 2 = F := by rw [hF, hq]
              have HQ3 := Lib.hid hq3
              obtain ⟨U, hU0⟩ : ∃ U, ofM d a * 2 ^ 160 = U := ⟨_, rfl⟩
              rw [hU0] at HF2 HUL HRD
              have HU := Lib.hid hU0
              clear hev hq hq2 hq3 hP hF hw1 hw2 HF ht hU0
              have x1 := X1.out.2.2.1; have x2 := X1.out.2.2.2
              go_wp2_with fail
              all_goals first | exact absurd (HT.out.symm.trans ‹((ofE d a).tmod 2 != 0) = true›) (by decide) | skip
              refine (up_c g1 n1 p1 (ofM d a) 160 _ (raw_hid1 hA2) (by omega) (by omega)).mono ?_; rintro e3 w12 ⟨g3, n3, p3, rfl, hU, b3⟩
              replace X1 := Lib.hid (X1.out.below b3); replace B1 := Lib.hid (B1.out.trans (b3.mono B1.out.size)); clear x1 x2 b3 hA2
              rw [HU.out] at hU
              have x1 := X1.out.2.2.1; have x2 := X1.out.2.2.2
              go_wp2_with fail
              refine (root_c2 g3 n3 p3 U R _ hU HUL HRD).mono ?_; rintro e3 w13 ⟨g4, n4, p4, rfl, hR, b3⟩
              replace X1 := Lib.hid (X1.out.below b3); replace B1 := Lib.hid (B1.out.trans (b3.mono B1.out.size)); clear x1 x2 b3 hU
              have x1 := X1.out.2.2.1; have x2 := X1.out.2.2.2
              have q4 := big_len hR.out (m := 4) (digits_of HR2.out (by decide))
              go_wp2_with fail
              rw [HQ3.out]
              refine (round_s _ sz d hs rm false g4 n4 p4 R F (decide (R * R < U)) hR (by omega) (Lib.hid HRT.out.1) (Lib.hid (fun _ => HRT.out.2)) hf1 hf2).mono ?_; rintro e4 w14 ⟨rfl, b4⟩
              replace B1 := Lib.hid (B1.out.trans (b4.mono B1.out.size))
              go_wp2_with fail
              go_ret2
              exact retP_mk (by rw [HF2.out]) (by rw [HF2.out]) B1.out
            · obtain ⟨F, hF⟩ : ∃ F, ofE d a - 161 = 2 * F := ⟨(ofE d a - 161) / 2, by omega⟩
              have hq : (2 * F).tdiv 2 = F := Int.mul_tdiv_cancel_left _ (by decide)
              have hq2 : (ofE d a - ((161 : Nat) : Int)) / 2 = F := by omega
              have hP : rootP (ofE d a) = 161 := if_neg hev
              rw [hP] at HF HRD
              have HF2 : Hid (sqrtF d rm (readN d a) = roundR d rm false R F (decide (R * R < ofM d a * 2 ^ 161))) := by show _ = _; rw [HF.out, hq2]
              have ht : ((ofE d a).tmod 2 != 0) = true := tmod_odd hev
              have HT := Lib.hid ht
              have HUL : Hid (ofM d a * 2 ^ 161 < 2 ^ 240) := by show _ < _; exact Nat.lt_of_lt_of_le (pow_lt HML.out) (Nat.pow_le_pow_right (by decide) (by decide))
              have HR2 : Hid (R < 2 ^ 120) := root_low HRD.out.1 HUL.out
              have hf1 : -5000 ≤ F := by omega
              have hf2 : F ≤ 5000 := by omega
              have hw1 : wrap64 (ofE d a - 161) = 2 * F := by rw [← hF]; exact IntWalk.wrap64_in _ (by omega)
              have hw2 : wrap64 F = F := IntWalk.wrap64_in _ (by omega)
              have HHQ := Lib.hid hq; have HW1 := Lib.hid hw1; have HW2 := Lib.hid hw2
              have hq3 : (ofE d a - 161).tdiv 2 = F := by rw [hF, hq]
              have HQ3 := Lib.hid hq3
              obtain ⟨U, hU0⟩ : ∃ U, ofM d a * 2 ^ 161 = U := ⟨_, rfl⟩
              rw [hU0] at HF2 HUL HRD
              have HU := Lib.hid hU0
              clear hev hq hq2 hq3 hP hF hw1 hw2 HF ht hU0
              have x1 := X1.out.2.2.1; have x2 := X1.out.2.2.2
              go_wp2_with fail
              all_goals first | exact absurd (HT.out.symm.trans ‹((ofE d a).tmod 2 != 0) = false›) (by decide) | skip
              refine (up_c g1 n1 p1 (ofM d a) 161 _ (raw_hid1 hA2) (by omega) (by omega)).mono ?_; rintro e3 w12 ⟨g3, n3, p3, rfl, hU, b3⟩
              replace X1 := Lib.hid (X1.out.below b3); replace B1 := Lib.hid (B1.out.trans (b3.mono B1.out.size)); clear x1 x2 b3 hA2
              rw [HU.out] at hU
              have x1 := X1.out.2.2.1; have x2 := X1.out.2.2.2
              go_wp2_with fail
              refine (root_c2 g3 n3 p3 U R _ hU HUL HRD).mono ?_; rintro e3 w13 ⟨g4, n4, p4, rfl, hR, b3⟩
              replace X1 := Lib.hid (X1.out.below b3); replace B1 := Lib.hid (B1.out.trans (b3.mono B1.out.size)); clear x1 x2 b3 hU
              have x1 := X1.out.2.2.1; have x2 := X1.out.2.2.2
              have q4 := big_len hR.out (m := 4) (digits_of HR2.out (by decide))
              go_wp2_with fail
              rw [HQ3.out]
              refine (round_s _ sz d hs rm false g4 n4 p4 R F (decide (R * R < U)) hR (by omega) (Lib.hid HRT.out.1) (Lib.hid (fun _ => HRT.out.2)) hf1 hf2).mono ?_; rintro e4 w14 ⟨rfl, b4⟩
              replace B1 := Lib.hid (B1.out.trans (b4.mono B1.out.size))
              go_wp2_with fail
              go_ret2
              exact retP_mk (by rw [HF2.out]) (by rw [HF2.out]) B1.out
          · have HF : Hid (sqrtF d rm (readN d a) = (r, f)) := HM.out
            go_wp2_with fail
            go_ret2
            exact retP_mk (by rw [HF.out]) (by rw [HF.out]) hbw
        · have HNA := Lib.hid hn; have HSA := Lib.hid hm; have HZA := Lib.hid hz; have HIA := Lib.hid hi; clear hn hm hz hi
          obtain ⟨r, f, is, ho⟩ : ∃ r f is, oddV d [a] true = (r, f, is) := ⟨_, _, _, rfl⟩
          have HM : Hid (sqrtF d rm (readN d a) = if is then (r, f) else roundR d rm false R ((ofE d a - rootP (ofE d a)) / 2) (decide (R * R < ofM d a * 2 ^ rootP (ofE d a)))) := by show _ = _; rw [sqrt_ref d rm HR4.out a ha.out R HRR.out, HNA.out, (show sgB d a = _ from HSA.out), HIA.out, HZA.out]; show (if (oddV d [a] true).2.2 = true then ((oddV d [a] true).1, (oddV d [a] true).2.1) else roundR d rm false R ((ofE d a - rootP (ofE d a)) / 2) (decide (R * R < ofM d a * 2 ^ rootP (ofE d a)))) = _; rw [ho]
          have HO := Lib.hid ho; clear ho
          go_enter Try.func22, Try.ntmps22
          go_wp2_with fail
          refine (right_s sz d hs rm h5 h3 _).mono ?_; rintro e0 w1 ⟨rfl, bq⟩
          have hbw := bq; clear bq
          go_wp2_with fail
          have HL := Lib.hid (lst_1 w1 a 22)
          replace hbw := hbw.trans ((below_one w1 (Obj.cells #[.int .u64 a] 22)).mono hbw.size)
          refine (nan_s sz d hs a ha _).mono ?_; rintro e0 wq ⟨rfl, bq⟩
          rw [HNA.out]
          replace HL := Lib.hid (HL.out.below bq)
          replace hbw := hbw.trans (bq.mono hbw.size); clear bq
          go_wp2_with fail
          refine (minused_s sz d hs a ha _).mono ?_; rintro e0 wq ⟨rfl, bq⟩
          rw [HSA.out]
          replace HL := Lib.hid (HL.out.below bq)
          replace hbw := hbw.trans (bq.mono hbw.size)
          clear bq
          go_wp2_with fail
          refine (zero_s sz d hs a ha _).mono ?_; rintro e0 wq ⟨rfl, bq⟩
          rw [HZA.out]
          replace HL := Lib.hid (HL.out.below bq)
          replace hbw := hbw.trans (bq.mono hbw.size)
          clear bq
          go_wp2_with fail
          refine (odd_l sz d hs _ [a] _ _ _ HL.out rfl (by simp) (get1 ha.out)).mono ?_; rintro e0 w9 ⟨rfl, bq⟩
          rw [HO.out]
          replace hbw := hbw.trans (bq.mono hbw.size); clear bq HL
          cases is
          · exfalso; have := HO.out; unfold oddV at this; simp at this
          · have HF : Hid (sqrtF d rm (readN d a) = (r, f)) := HM.out
            go_wp2_with fail
            go_ret2
            exact retP_mk (by rw [HF.out]) (by rw [HF.out]) hbw
      · cases hm : decide (a / signB d % 2 = 1)
        · have HNA := Lib.hid hn; have HSA := Lib.hid hm; have HZA := Lib.hid hz; have HIA := Lib.hid hi; clear hn hm hz hi
          obtain ⟨r, f, is, ho⟩ : ∃ r f is, oddV d [a] false = (r, f, is) := ⟨_, _, _, rfl⟩
          have HM : Hid (sqrtF d rm (readN d a) = if is then (r, f) else (maskB d a, 0)) := by show _ = _; rw [sqrt_ref d rm HR4.out a ha.out R HRR.out, HNA.out, (show sgB d a = _ from HSA.out), HIA.out, HZA.out]; show (if (oddV d [a] false).2.2 = true then ((oddV d [a] false).1, (oddV d [a] false).2.1) else (maskB d a, 0)) = _; rw [ho]
          have HO := Lib.hid ho; clear ho
          go_enter Try.func22, Try.ntmps22
          go_wp2_with fail
          refine (right_s sz d hs rm h5 h3 _).mono ?_; rintro e0 w1 ⟨rfl, bq⟩
          have hbw := bq; clear bq
          go_wp2_with fail
          have HL := Lib.hid (lst_1 w1 a 22)
          replace hbw := hbw.trans ((below_one w1 (Obj.cells #[.int .u64 a] 22)).mono hbw.size)
          refine (nan_s sz d hs a ha _).mono ?_; rintro e0 wq ⟨rfl, bq⟩
          rw [HNA.out]
          replace HL := Lib.hid (HL.out.below bq)
          replace hbw := hbw.trans (bq.mono hbw.size); clear bq
          go_wp2_with fail
          refine (minused_s sz d hs a ha _).mono ?_; rintro e0 wq ⟨rfl, bq⟩
          rw [HSA.out]
          replace HL := Lib.hid (HL.out.below bq)
          replace hbw := hbw.trans (bq.mono hbw.size)
          clear bq
          go_wp2_with fail
          refine (odd_l sz d hs _ [a] _ _ _ HL.out rfl (by simp) (get1 ha.out)).mono ?_; rintro e0 w9 ⟨rfl, bq⟩
          rw [HO.out]
          replace hbw := hbw.trans (bq.mono hbw.size); clear bq HL
          cases is
          · have HF : Hid (sqrtF d rm (readN d a) = (maskB d a, 0)) := HM.out
            go_wp2_with fail
            refine (inf_s sz d hs a ha _).mono ?_; rintro e0 wq ⟨rfl, bq⟩
            rw [HIA.out]
            replace hbw := hbw.trans (bq.mono hbw.size)
            clear bq
            go_wp2_with fail
            refine (zero_s sz d hs a ha _).mono ?_; rintro e0 wq ⟨rfl, bq⟩
            rw [HZA.out]
            replace hbw := hbw.trans (bq.mono hbw.size)
            clear bq
            go_wp2_with fail
            refine (mask_s sz d hs a ha _).mono ?_; rintro e0 wq ⟨rfl, bq⟩
            replace hbw := hbw.trans (bq.mono hbw.size)
            clear bq
            go_wp2_with fail
            go_ret2
            exact retP_mk (by rw [HF.out]) (by rw [HF.out]) hbw
          · have HF : Hid (sqrtF d rm (readN d a) = (r, f)) := HM.out
            go_wp2_with fail
            go_ret2
            exact retP_mk (by rw [HF.out]) (by rw [HF.out]) hbw
        · have HNA := Lib.hid hn; have HSA := Lib.hid hm; have HZA := Lib.hid hz; have HIA := Lib.hid hi; clear hn hm hz hi
          obtain ⟨r, f, is, ho⟩ : ∃ r f is, oddV d [a] false = (r, f, is) := ⟨_, _, _, rfl⟩
          have HM : Hid (sqrtF d rm (readN d a) = if is then (r, f) else (maskB d a, 0)) := by show _ = _; rw [sqrt_ref d rm HR4.out a ha.out R HRR.out, HNA.out, (show sgB d a = _ from HSA.out), HIA.out, HZA.out]; show (if (oddV d [a] false).2.2 = true then ((oddV d [a] false).1, (oddV d [a] false).2.1) else (maskB d a, 0)) = _; rw [ho]
          have HO := Lib.hid ho; clear ho
          go_enter Try.func22, Try.ntmps22
          go_wp2_with fail
          refine (right_s sz d hs rm h5 h3 _).mono ?_; rintro e0 w1 ⟨rfl, bq⟩
          have hbw := bq; clear bq
          go_wp2_with fail
          have HL := Lib.hid (lst_1 w1 a 22)
          replace hbw := hbw.trans ((below_one w1 (Obj.cells #[.int .u64 a] 22)).mono hbw.size)
          refine (nan_s sz d hs a ha _).mono ?_; rintro e0 wq ⟨rfl, bq⟩
          rw [HNA.out]
          replace HL := Lib.hid (HL.out.below bq)
          replace hbw := hbw.trans (bq.mono hbw.size); clear bq
          go_wp2_with fail
          refine (minused_s sz d hs a ha _).mono ?_; rintro e0 wq ⟨rfl, bq⟩
          rw [HSA.out]
          replace HL := Lib.hid (HL.out.below bq)
          replace hbw := hbw.trans (bq.mono hbw.size)
          clear bq
          go_wp2_with fail
          refine (zero_s sz d hs a ha _).mono ?_; rintro e0 wq ⟨rfl, bq⟩
          rw [HZA.out]
          replace HL := Lib.hid (HL.out.below bq)
          replace hbw := hbw.trans (bq.mono hbw.size)
          clear bq
          go_wp2_with fail
          refine (odd_l sz d hs _ [a] _ _ _ HL.out rfl (by simp) (get1 ha.out)).mono ?_; rintro e0 w9 ⟨rfl, bq⟩
          rw [HO.out]
          replace hbw := hbw.trans (bq.mono hbw.size); clear bq HL
          cases is
          · have HF : Hid (sqrtF d rm (readN d a) = (maskB d a, 0)) := HM.out
            go_wp2_with fail
            refine (inf_s sz d hs a ha _).mono ?_; rintro e0 wq ⟨rfl, bq⟩
            rw [HIA.out]
            replace hbw := hbw.trans (bq.mono hbw.size)
            clear bq
            go_wp2_with fail
            refine (zero_s sz d hs a ha _).mono ?_; rintro e0 wq ⟨rfl, bq⟩
            rw [HZA.out]
            replace hbw := hbw.trans (bq.mono hbw.size)
            clear bq
            go_wp2_with fail
            refine (mask_s sz d hs a ha _).mono ?_; rintro e0 wq ⟨rfl, bq⟩
            replace hbw := hbw.trans (bq.mono hbw.size)
            clear bq
            go_wp2_with fail
            go_ret2
            exact retP_mk (by rw [HF.out]) (by rw [HF.out]) hbw
          · have HF : Hid (sqrtF d rm (readN d a) = (r, f)) := HM.out
            go_wp2_with fail
            go_ret2
            exact retP_mk (by rw [HF.out]) (by rw [HF.out]) hbw
    · cases hz : isZero d a
      · cases hm : decide (a / signB d % 2 = 1)
        · have HNA := Lib.hid hn; have HSA := Lib.hid hm; have HZA := Lib.hid hz; have HIA := Lib.hid hi; clear hn hm hz hi
          obtain ⟨r, f, is, ho⟩ : ∃ r f is, oddV d [a] false = (r, f, is) := ⟨_, _, _, rfl⟩
          have HM : Hid (sqrtF d rm (readN d a) = if is then (r, f) else roundR d rm false R ((ofE d a - rootP (ofE d a)) / 2) (decide (R * R < ofM d a * 2 ^ rootP (ofE d a)))) := by show _ = _; rw [sqrt_ref d rm HR4.out a ha.out R HRR.out, HNA.out, (show sgB d a = _ from HSA.out), HIA.out, HZA.out]; show (if (oddV d [a] false).2.2 = true then ((oddV d [a] false).1, (oddV d [a] false).2.1) else roundR d rm false R ((ofE d a - rootP (ofE d a)) / 2) (decide (R * R < ofM d a * 2 ^ rootP (ofE d a)))) = _; rw [ho]
          have HO := Lib.hid ho; clear ho
          go_enter Try.func22, Try.ntmps22
          go_wp2_with fail
          refine (right_s sz d hs rm h5 h3 _).mono ?_; rintro e0 w1 ⟨rfl, bq⟩
          have hbw := bq; clear bq
          go_wp2_with fail
          have HL := Lib.hid (lst_1 w1 a 22)
          replace hbw := hbw.trans ((below_one w1 (Obj.cells #[.int .u64 a] 22)).mono hbw.size)
          refine (nan_s sz d hs a ha _).mono ?_; rintro e0 wq ⟨rfl, bq⟩
          rw [HNA.out]
          replace HL := Lib.hid (HL.out.below bq)
          replace hbw := hbw.trans (bq.mono hbw.size); clear bq
          go_wp2_with fail
          refine (odd_l sz d hs _ [a] _ _ _ HL.out rfl (by simp) (get1 ha.out)).mono ?_; rintro e0 w9 ⟨rfl, bq⟩
          rw [HO.out]
          replace hbw := hbw.trans (bq.mono hbw.size); clear bq HL
          cases is
          · exfalso; have := odd_no HO.out a (by simp); rw [HNA.out] at this; cases this
          · have HF : Hid (sqrtF d rm (readN d a) = (r, f)) := HM.out
            go_wp2_with fail
            go_ret2
            exact retP_mk (by rw [HF.out]) (by rw [HF.out]) hbw
        · have HNA := Lib.hid hn; have HSA := Lib.hid hm; have HZA := Lib.hid hz; have HIA := Lib.hid hi; clear hn hm hz hi
          obtain ⟨r, f, is, ho⟩ : ∃ r f is, oddV d [a] false = (r, f, is) := ⟨_, _, _, rfl⟩
          have HM : Hid (sqrtF d rm (readN d a) = if is then (r, f) else roundR d rm false R ((ofE d a - rootP (ofE d a)) / 2) (decide (R * R < ofM d a * 2 ^ rootP (ofE d a)))) := by show _ = _; rw [sqrt_ref d rm HR4.out a ha.out R HRR.out, HNA.out, (show sgB d a = _ from HSA.out), HIA.out, HZA.out]; show (if (oddV d [a] false).2.2 = true then ((oddV d [a] false).1, (oddV d [a] false).2.1) else roundR d rm false R ((ofE d a - rootP (ofE d a)) / 2) (decide (R * R < ofM d a * 2 ^ rootP (ofE d a)))) = _; rw [ho]
          have HO := Lib.hid ho; clear ho
          go_enter Try.func22, Try.ntmps22
          go_wp2_with fail
          refine (right_s sz d hs rm h5 h3 _).mono ?_; rintro e0 w1 ⟨rfl, bq⟩
          have hbw := bq; clear bq
          go_wp2_with fail
          have HL := Lib.hid (lst_1 w1 a 22)
          replace hbw := hbw.trans ((below_one w1 (Obj.cells #[.int .u64 a] 22)).mono hbw.size)
          refine (nan_s sz d hs a ha _).mono ?_; rintro e0 wq ⟨rfl, bq⟩
          rw [HNA.out]
          replace HL := Lib.hid (HL.out.below bq)
          replace hbw := hbw.trans (bq.mono hbw.size); clear bq
          go_wp2_with fail
          refine (odd_l sz d hs _ [a] _ _ _ HL.out rfl (by simp) (get1 ha.out)).mono ?_; rintro e0 w9 ⟨rfl, bq⟩
          rw [HO.out]
          replace hbw := hbw.trans (bq.mono hbw.size); clear bq HL
          cases is
          · exfalso; have := odd_no HO.out a (by simp); rw [HNA.out] at this; cases this
          · have HF : Hid (sqrtF d rm (readN d a) = (r, f)) := HM.out
            go_wp2_with fail
            go_ret2
            exact retP_mk (by rw [HF.out]) (by rw [HF.out]) hbw
      · cases hm : decide (a / signB d % 2 = 1)
        · have HNA := Lib.hid hn; have HSA := Lib.hid hm; have HZA := Lib.hid hz; have HIA := Lib.hid hi; clear hn hm hz hi
          obtain ⟨r, f, is, ho⟩ : ∃ r f is, oddV d [a] false = (r, f, is) := ⟨_, _, _, rfl⟩
          have HM : Hid (sqrtF d rm (readN d a) = if is then (r, f) else (maskB d a, 0)) := by show _ = _; rw [sqrt_ref d rm HR4.out a ha.out R HRR.out, HNA.out, (show sgB d a = _ from HSA.out), HIA.out, HZA.out]; show (if (oddV d [a] false).2.2 = true then ((oddV d [a] false).1, (oddV d [a] false).2.1) else (maskB d a, 0)) = _; rw [ho]
          have HO := Lib.hid ho; clear ho
          go_enter Try.func22, Try.ntmps22
          go_wp2_with fail
          refine (right_s sz d hs rm h5 h3 _).mono ?_; rintro e0 w1 ⟨rfl, bq⟩
          have hbw := bq; clear bq
          go_wp2_with fail
          have HL := Lib.hid (lst_1 w1 a 22)
          replace hbw := hbw.trans ((below_one w1 (Obj.cells #[.int .u64 a] 22)).mono hbw.size)
          refine (nan_s sz d hs a ha _).mono ?_; rintro e0 wq ⟨rfl, bq⟩
          rw [HNA.out]
          replace HL := Lib.hid (HL.out.below bq)
          replace hbw := hbw.trans (bq.mono hbw.size); clear bq
          go_wp2_with fail
          refine (odd_l sz d hs _ [a] _ _ _ HL.out rfl (by simp) (get1 ha.out)).mono ?_; rintro e0 w9 ⟨rfl, bq⟩
          rw [HO.out]
          replace hbw := hbw.trans (bq.mono hbw.size); clear bq HL
          cases is
          · exfalso; have := odd_no HO.out a (by simp); rw [HNA.out] at this; cases this
          · have HF : Hid (sqrtF d rm (readN d a) = (r, f)) := HM.out
            go_wp2_with fail
            go_ret2
            exact retP_mk (by rw [HF.out]) (by rw [HF.out]) hbw
        · have HNA := Lib.hid hn; have HSA := Lib.hid hm; have HZA := Lib.hid hz; have HIA := Lib.hid hi; clear hn hm hz hi
          obtain ⟨r, f, is, ho⟩ : ∃ r f is, oddV d [a] false = (r, f, is) := ⟨_, _, _, rfl⟩
          have HM : Hid (sqrtF d rm (readN d a) = if is then (r, f) else (maskB d a, 0)) := by show _ = _; rw [sqrt_ref d rm HR4.out a ha.out R HRR.out, HNA.out, (show sgB d a = _ from HSA.out), HIA.out, HZA.out]; show (if (oddV d [a] false).2.2 = true then ((oddV d [a] false).1, (oddV d [a] false).2.1) else (maskB d a, 0)) = _; rw [ho]
          have HO := Lib.hid ho; clear ho
          go_enter Try.func22, Try.ntmps22
          go_wp2_with fail
          refine (right_s sz d hs rm h5 h3 _).mono ?_; rintro e0 w1 ⟨rfl, bq⟩
          have hbw := bq; clear bq
          go_wp2_with fail
          have HL := Lib.hid (lst_1 w1 a 22)
          replace hbw := hbw.trans ((below_one w1 (Obj.cells #[.int .u64 a] 22)).mono hbw.size)
          refine (nan_s sz d hs a ha _).mono ?_; rintro e0 wq ⟨rfl, bq⟩
          rw [HNA.out]
          replace HL := Lib.hid (HL.out.below bq)
          replace hbw := hbw.trans (bq.mono hbw.size); clear bq
          go_wp2_with fail
          refine (odd_l sz d hs _ [a] _ _ _ HL.out rfl (by simp) (get1 ha.out)).mono ?_; rintro e0 w9 ⟨rfl, bq⟩
          rw [HO.out]
          replace hbw := hbw.trans (bq.mono hbw.size); clear bq HL
          cases is
          · exfalso; have := odd_no HO.out a (by simp); rw [HNA.out] at this; cases this
          · have HF : Hid (sqrtF d rm (readN d a) = (r, f)) := HM.out
            go_wp2_with fail
            go_ret2
            exact retP_mk (by rw [HF.out]) (by rw [HF.out]) hbw
  · obtain ⟨hz, hn⟩ := inf_zero1 d a hi
    cases hm : decide (a / signB d % 2 = 1)
    · have HNA := Lib.hid hn; have HSA := Lib.hid hm; have HZA := Lib.hid hz; have HIA := Lib.hid hi; clear hn hm hz hi
      obtain ⟨r, f, is, ho⟩ : ∃ r f is, oddV d [a] false = (r, f, is) := ⟨_, _, _, rfl⟩
      have HM : Hid (sqrtF d rm (readN d a) = if is then (r, f) else (maskB d a, 0)) := by show _ = _; rw [sqrt_ref d rm HR4.out a ha.out R HRR.out, HNA.out, (show sgB d a = _ from HSA.out), HIA.out, HZA.out]; show (if (oddV d [a] false).2.2 = true then ((oddV d [a] false).1, (oddV d [a] false).2.1) else (maskB d a, 0)) = _; rw [ho]
      have HO := Lib.hid ho; clear ho
      go_enter Try.func22, Try.ntmps22
      go_wp2_with fail
      refine (right_s sz d hs rm h5 h3 _).mono ?_; rintro e0 w1 ⟨rfl, bq⟩
      have hbw := bq; clear bq
      go_wp2_with fail
      have HL := Lib.hid (lst_1 w1 a 22)
      replace hbw := hbw.trans ((below_one w1 (Obj.cells #[.int .u64 a] 22)).mono hbw.size)
      refine (nan_s sz d hs a ha _).mono ?_; rintro e0 wq ⟨rfl, bq⟩
      rw [HNA.out]
      replace HL := Lib.hid (HL.out.below bq)
      replace hbw := hbw.trans (bq.mono hbw.size); clear bq
      go_wp2_with fail
      refine (minused_s sz d hs a ha _).mono ?_; rintro e0 wq ⟨rfl, bq⟩
      rw [HSA.out]
      replace HL := Lib.hid (HL.out.below bq)
      replace hbw := hbw.trans (bq.mono hbw.size)
      clear bq
      go_wp2_with fail
      refine (odd_l sz d hs _ [a] _ _ _ HL.out rfl (by simp) (get1 ha.out)).mono ?_; rintro e0 w9 ⟨rfl, bq⟩
      rw [HO.out]
      replace hbw := hbw.trans (bq.mono hbw.size); clear bq HL
      cases is
      · have HF : Hid (sqrtF d rm (readN d a) = (maskB d a, 0)) := HM.out
        go_wp2_with fail
        refine (inf_s sz d hs a ha _).mono ?_; rintro e0 wq ⟨rfl, bq⟩
        rw [HIA.out]
        replace hbw := hbw.trans (bq.mono hbw.size)
        clear bq
        go_wp2_with fail
        refine (mask_s sz d hs a ha _).mono ?_; rintro e0 wq ⟨rfl, bq⟩
        replace hbw := hbw.trans (bq.mono hbw.size)
        clear bq
        go_wp2_with fail
        go_ret2
        exact retP_mk (by rw [HF.out]) (by rw [HF.out]) hbw
      · have HF : Hid (sqrtF d rm (readN d a) = (r, f)) := HM.out
        go_wp2_with fail
        go_ret2
        exact retP_mk (by rw [HF.out]) (by rw [HF.out]) hbw
    · have HNA := Lib.hid hn; have HSA := Lib.hid hm; have HZA := Lib.hid hz; have HIA := Lib.hid hi; clear hn hm hz hi
      obtain ⟨r, f, is, ho⟩ : ∃ r f is, oddV d [a] true = (r, f, is) := ⟨_, _, _, rfl⟩
      have HM : Hid (sqrtF d rm (readN d a) = if is then (r, f) else (maskB d a, 0)) := by show _ = _; rw [sqrt_ref d rm HR4.out a ha.out R HRR.out, HNA.out, (show sgB d a = _ from HSA.out), HIA.out, HZA.out]; show (if (oddV d [a] true).2.2 = true then ((oddV d [a] true).1, (oddV d [a] true).2.1) else (maskB d a, 0)) = _; rw [ho]
      have HO := Lib.hid ho; clear ho
      go_enter Try.func22, Try.ntmps22
      go_wp2_with fail
      refine (right_s sz d hs rm h5 h3 _).mono ?_; rintro e0 w1 ⟨rfl, bq⟩
      have hbw := bq; clear bq
      go_wp2_with fail
      have HL := Lib.hid (lst_1 w1 a 22)
      replace hbw := hbw.trans ((below_one w1 (Obj.cells #[.int .u64 a] 22)).mono hbw.size)
      refine (nan_s sz d hs a ha _).mono ?_; rintro e0 wq ⟨rfl, bq⟩
      rw [HNA.out]
      replace HL := Lib.hid (HL.out.below bq)
      replace hbw := hbw.trans (bq.mono hbw.size); clear bq
      go_wp2_with fail
      refine (minused_s sz d hs a ha _).mono ?_; rintro e0 wq ⟨rfl, bq⟩
      rw [HSA.out]
      replace HL := Lib.hid (HL.out.below bq)
      replace hbw := hbw.trans (bq.mono hbw.size)
      clear bq
      go_wp2_with fail
      refine (zero_s sz d hs a ha _).mono ?_; rintro e0 wq ⟨rfl, bq⟩
      rw [HZA.out]
      replace HL := Lib.hid (HL.out.below bq)
      replace hbw := hbw.trans (bq.mono hbw.size)
      clear bq
      go_wp2_with fail
      refine (odd_l sz d hs _ [a] _ _ _ HL.out rfl (by simp) (get1 ha.out)).mono ?_; rintro e0 w9 ⟨rfl, bq⟩
      rw [HO.out]
      replace hbw := hbw.trans (bq.mono hbw.size); clear bq HL
      cases is
      · exfalso; have := HO.out; unfold oddV at this; simp at this
      · have HF : Hid (sqrtF d rm (readN d a) = (r, f)) := HM.out
        go_wp2_with fail
        go_ret2
        exact retP_mk (by rw [HF.out]) (by rw [HF.out]) hbw
end Go.Proofs.Ytmdgfddiniapfaa
