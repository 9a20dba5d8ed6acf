/- The reference's ToInt. -/
import Derived.Test.YteinjalnkhfecaaZ7
import Derived.Test.YteinjalnkhfecaaZ6
namespace Go.Proofs.Yteinjalnkhfecaa
open Go.ChangeShapes Go.WideShapes Go.ChangeAt Go.RowKit
set_option linter.unusedVariables false
set_option linter.unusedSimpArgs false
/-- The document's whole number, in plain words. -/
def wholeW (rm : Int) (m : Bool) (e : Int) (g : Nat) : Nat × Bool :=
  if 0 ≤ e then (g * 2 ^ e.toNat, true)
  else (g / 2 ^ (-e).toNat + (if moreW rm m (decide (Q.bitN g ((-e).toNat - 1) = 1)) (decide (g % 2 ^ ((-e).toNat - 1) = 0)) (decide (Q.bitN (g / 2 ^ (-e).toNat) 0 = 1)) (decide (g % 2 ^ (-e).toNat = 0)) then 1 else 0), decide (g % 2 ^ (-e).toNat = 0))
def toIntR (d : Bool) (rm : Int) (wd u : Bool) (a : Nat) : Nat × Int :=
  let r := wholeW rm (minusN d a) (Q.ofE d a) (Q.ofM d a)
  if nanX d a then (endV wd u false, 16) else if infX d a then (endV wd u (minusN d a), 16) else if farV wd u (minusN d a) < r.1 then (endV wd u (minusN d a), 16)
  else (numV wd (minusN d a) r.1, if r.2 then 0 else 1)
theorem bit01 (A k : Nat) : Q.bitN A k = 0 ∨ Q.bitN A k = 1 := by unfold Q.bitN; omega
/-- The document's whole, of a float's number. -/
theorem whole_r (rm : Int) (hrm : 0 ≤ rm ∧ rm ≤ 4) (m : Bool) (g n p A : Nat) (ex : Int) (h1 : -5000 ≤ ex) (h2 : ex ≤ 5000) (w : World) (hA : Hid (Q.IsBig w g n p A)) (hn : n ≤ 200) (hl : A < 2 ^ 65) :
    Calls Try.prog 52 #[.int .i64 rm, .agg #[.bool m, .slice (some ⟨g, 0, none⟩) n p, .int .i64 ex]] w (Q.RetGB (wholeW rm m ex A).1 (wholeW rm m ex A).2 w) := by
  unfold wholeW
  by_cases h : 0 ≤ ex
  · obtain ⟨e, rfl⟩ := Int.eq_ofNat_of_zero_le h
    rw [if_pos h]
    exact whole_up rm m g n p A e w hA hn (by omega)
  · rw [if_neg h]
    obtain ⟨N, hN⟩ : ∃ N : Nat, -ex = (N : Int) := ⟨(-ex).toNat, by omega⟩
    have hN2 : (-ex).toNat = N := by omega
    rw [hN2]
    have hk : (N - 1 : Nat) + 1 = N := by omega
    refine whole_dn rm hrm m g n p A ex N (N - 1) (decide_eq_false h) h ?_ ?_ (by omega) (by omega) w hA hn (A / 2 ^ N) _ _ _ _ (Nat.lt_of_le_of_lt (Nat.div_le_self _ _) hl) rfl rfl rfl rfl rfl (bit01 _ _) (bit01 _ _) _ rfl
    · rw [hN]; exact IntWalk.i64_in _ (by omega)
    · rw [show ((N : Int) - 1) = ((N - 1 : Nat) : Int) by omega]; exact IntWalk.i64_in _ (by omega)
theorem farV_lt65 (wd u m : Bool) : farV wd u m < 18446744073709551616 := farV_lt wd u m
set_option maxRecDepth 100000 in
set_option maxHeartbeats 2000000 in
theorem ToInt_core (sz : Int) (d : Bool) (hsz : Hid (SzOk sz d)) (rm : Int) (hrm : Hid (0 ≤ rm ∧ rm ≤ 4)) (wd u : Bool) (a : Nat) (ha : Hid (a < 18446744073709551616)) (nan inf mi : Bool) (v : Nat) (ex : Bool) (lo hi : Nat) (out : Nat × Int)
    (HA : Hid (nanX d a = nan)) (HI : Hid (infX d a = inf)) (HM : Hid (minusN d a = mi)) (HLO : Hid (farV wd u true = lo)) (HHI : Hid (farV wd u false = hi)) (HW : Hid (wholeW rm mi (Q.ofE d a) (Q.ofM d a) = (v, ex)))
    (b1 b2 : Bool) (HB1 : Hid (decide (lo < v) = b1)) (HB2 : Hid (decide (hi < v) = b2))
    (HO : Hid ((if nan then (numV wd false hi, 16) else if inf then (numV wd mi (if mi then lo else hi), 16) else if (if mi then b1 else b2) then (numV wd mi (if mi then lo else hi), 16) else (numV wd mi v, if ex then 0 else 1)) = out)) (WLT : Hid (Q.shd v 188 = 0)) (lv : Hid (b1 = false ∨ b2 = false → v < 18446744073709551616)) (w : World) :
    Calls Try.prog 17 #[.int .i64 sz, .int .i64 rm, .bool wd, .bool u, .int .u64 a] w (RetP out w) := by
  have lL : Hid (lo < 18446744073709551616) := by rw [← HLO.out]; exact farV_lt wd u true
  have lH : Hid (hi < 18446744073709551616) := by rw [← HHI.out]; exact farV_lt wd u false
  go_enter Try.func17, Try.ntmps17
  go_wp2_with fail
  refine (rright_m sz d hsz rm hrm _).mono ?_; rintro e w1 ⟨rfl, bq⟩
  have HB := Lib.hid bq; clear bq
  go_wp2_with fail
  refine (ends_r wd u _).mono ?_; rintro e w2 ⟨g1, n1, p1, g2, n2, p2, rfl, hL, hH, l1, l2, bq⟩
  rw [HLO.out] at hL; rw [HHI.out] at hH
  replace HB := Lib.hid (HB.out.trans (bq.mono HB.out.size)); clear bq
  go_wp2_with fail
  refine (rnan_c sz d hsz a ha _).mono ?_; rintro e w3 ⟨rfl, bq⟩
  rw [HA.out]
  replace HB := Lib.hid (HB.out.trans (bq.mono HB.out.size)); replace hL := Lib.hid (Q.big_below hL.out bq (Nat.le_refl _)); replace hH := Lib.hid (Q.big_below hH.out bq (Nat.le_refl _)); clear bq
  cases nan
  · go_wp2_with fail
    refine (rminus_c sz d hsz a ha _).mono ?_; rintro e w4 ⟨rfl, bq⟩
    rw [HM.out]
    replace HB := Lib.hid (HB.out.trans (bq.mono HB.out.size)); replace hL := Lib.hid (Q.big_below hL.out bq (Nat.le_refl _)); replace hH := Lib.hid (Q.big_below hH.out bq (Nat.le_refl _)); clear bq
    go_wp2_with fail
    refine (rinf_c sz d hsz a ha _).mono ?_; rintro e w5 ⟨rfl, bq⟩
    rw [HI.out]
    replace HB := Lib.hid (HB.out.trans (bq.mono HB.out.size)); replace hL := Lib.hid (Q.big_below hL.out bq (Nat.le_refl _)); replace hH := Lib.hid (Q.big_below hH.out bq (Nat.le_refl _)); clear bq
    cases inf
    · have be := Q.below_one w5 (Obj.cells #[] 36)
      replace HB := Lib.hid (HB.out.trans (be.mono HB.out.size)); replace hL := Lib.hid (Q.big_below hL.out be (Nat.le_refl _)); replace hH := Lib.hid (Q.big_below hH.out be (Nat.le_refl _)); clear be
      go_wp2_with fail
      refine (Q.of_s sz d hsz a ha _).mono ?_; rintro e w6 ⟨g, n, p, rfl, hA, bq⟩
      have hmm : decide (a / Q.signB d % 2 = 1) = mi := HM.out
      rw [hmm]
      replace HB := Lib.hid (HB.out.trans (bq.mono HB.out.size)); replace hL := Lib.hid (Q.big_below hL.out bq (Nat.le_refl _)); replace hH := Lib.hid (Q.big_below hH.out bq (Nat.le_refl _)); clear bq
      have lA := Lib.hid (ofM_lt d a)
      have bE := ofE_bd d a
      have lg := len3 hA.out lA.out
      go_wp2_with fail
      refine (whole_r rm hrm.out mi g n p _ _ bE.1 bE.2 _ hA (by omega) lA.out).mono ?_; rintro e w7 ⟨g3, n3, p3, rfl, hV, bq⟩
      rw [HW.out] at hV; rw [HW.out]
      replace HB := Lib.hid (HB.out.trans (bq.mono HB.out.size)); replace hL := Lib.hid (Q.big_below hL.out bq (Nat.le_refl _)); replace hH := Lib.hid (Q.big_below hH.out bq (Nat.le_refl _)); clear bq hA lg
      have l3 : n3 ≤ 188 := Q.big_len hV.out WLT.out
      cases mi
      · go_wp2_with fail
        refine (Q.less_c g2 n2 p2 hi g3 n3 p3 v _ hH hV (by omega) (by omega)).mono ?_; rintro e w8 ⟨rfl, bq⟩
        rw [HB2.out]
        replace HB := Lib.hid (HB.out.trans (bq.mono HB.out.size)); replace hL := Lib.hid (Q.big_below hL.out bq (Nat.le_refl _)); replace hH := Lib.hid (Q.big_below hH.out bq (Nat.le_refl _)); replace hV := Lib.hid (Q.big_below hV.out bq (Nat.le_refl _)); clear bq
        cases b2
        · have lV : Hid (v < 18446744073709551616) := lv.out (Or.inr rfl)
          have l4 := len3 hV.out (Nat.lt_of_lt_of_le lV.out (by decide))
          cases ex
          · go_wp2_with fail
            refine (number_r wd false g3 n3 p3 v _ (Lib.hid hV.out.1) (by omega) lV).mono ?_; rintro e w9 ⟨rfl, bq⟩
            replace HB := Lib.hid (HB.out.trans (bq.mono HB.out.size))
            go_wp2_with fail
            go_ret2
            have eo := HO.out.symm
            exact retP_mk (by rw [eo]; rfl) (by rw [eo]; rfl) HB.out
          · go_wp2_with fail
            refine (number_r wd false g3 n3 p3 v _ (Lib.hid hV.out.1) (by omega) lV).mono ?_; rintro e w9 ⟨rfl, bq⟩
            replace HB := Lib.hid (HB.out.trans (bq.mono HB.out.size))
            go_wp2_with fail
            go_ret2
            have eo := HO.out.symm
            exact retP_mk (by rw [eo]; rfl) (by rw [eo]; rfl) HB.out
        · go_wp2_with fail
          refine (number_r wd false g2 n2 p2 hi _ (Lib.hid hH.out.1) (by omega) lH).mono ?_; rintro e w9 ⟨rfl, bq⟩
          replace HB := Lib.hid (HB.out.trans (bq.mono HB.out.size))
          go_wp2_with fail
          go_ret2
          have eo := HO.out.symm
          exact retP_mk (by rw [eo]; rfl) (by rw [eo]; rfl) HB.out
      · go_wp2_with fail
        refine (Q.less_c g1 n1 p1 lo g3 n3 p3 v _ hL hV (by omega) (by omega)).mono ?_; rintro e w8 ⟨rfl, bq⟩
        rw [HB1.out]
        replace HB := Lib.hid (HB.out.trans (bq.mono HB.out.size)); replace hL := Lib.hid (Q.big_below hL.out bq (Nat.le_refl _)); replace hH := Lib.hid (Q.big_below hH.out bq (Nat.le_refl _)); replace hV := Lib.hid (Q.big_below hV.out bq (Nat.le_refl _)); clear bq
        cases b1
        · have lV : Hid (v < 18446744073709551616) := lv.out (Or.inl rfl)
          have l4 := len3 hV.out (Nat.lt_of_lt_of_le lV.out (by decide))
          cases ex
          · go_wp2_with fail
            refine (number_r wd true g3 n3 p3 v _ (Lib.hid hV.out.1) (by omega) lV).mono ?_; rintro e w9 ⟨rfl, bq⟩
            replace HB := Lib.hid (HB.out.trans (bq.mono HB.out.size))
            go_wp2_with fail
            go_ret2
            have eo := HO.out.symm
            exact retP_mk (by rw [eo]; rfl) (by rw [eo]; rfl) HB.out
          · go_wp2_with fail
            refine (number_r wd true g3 n3 p3 v _ (Lib.hid hV.out.1) (by omega) lV).mono ?_; rintro e w9 ⟨rfl, bq⟩
            replace HB := Lib.hid (HB.out.trans (bq.mono HB.out.size))
            go_wp2_with fail
            go_ret2
            have eo := HO.out.symm
            exact retP_mk (by rw [eo]; rfl) (by rw [eo]; rfl) HB.out
        · go_wp2_with fail
          refine (number_r wd true g1 n1 p1 lo _ (Lib.hid hL.out.1) (by omega) lL).mono ?_; rintro e w9 ⟨rfl, bq⟩
          replace HB := Lib.hid (HB.out.trans (bq.mono HB.out.size))
          go_wp2_with fail
          go_ret2
          have eo := HO.out.symm
          exact retP_mk (by rw [eo]; rfl) (by rw [eo]; rfl) HB.out
    · have be := Q.below_one w5 (Obj.cells #[] 36)
      replace HB := Lib.hid (HB.out.trans (be.mono HB.out.size)); replace hL := Lib.hid (Q.big_below hL.out be (Nat.le_refl _)); replace hH := Lib.hid (Q.big_below hH.out be (Nat.le_refl _)); clear be
      cases mi
      · go_wp2_with fail
        refine (number_r wd false g2 n2 p2 hi _ (Lib.hid hH.out.1) (by omega) lH).mono ?_; rintro e w9 ⟨rfl, bq⟩
        replace HB := Lib.hid (HB.out.trans (bq.mono HB.out.size))
        go_wp2_with fail
        go_ret2
        have eo := HO.out.symm
        exact retP_mk (by rw [eo]; rfl) (by rw [eo]; rfl) HB.out
      · go_wp2_with fail
        refine (number_r wd true g1 n1 p1 lo _ (Lib.hid hL.out.1) (by omega) lL).mono ?_; rintro e w9 ⟨rfl, bq⟩
        replace HB := Lib.hid (HB.out.trans (bq.mono HB.out.size))
        go_wp2_with fail
        go_ret2
        have eo := HO.out.symm
        exact retP_mk (by rw [eo]; rfl) (by rw [eo]; rfl) HB.out
  · go_wp2_with fail
    refine (number_r wd false g2 n2 p2 hi _ (Lib.hid hH.out.1) (by omega) lH).mono ?_; rintro e w9 ⟨rfl, bq⟩
    replace HB := Lib.hid (HB.out.trans (bq.mono HB.out.size))
    go_wp2_with fail
    go_ret2
    have eo := HO.out.symm
    exact retP_mk (by rw [eo]; rfl) (by rw [eo]; rfl) HB.out
theorem whole_bd (rm : Int) (m : Bool) (e : Int) (h : e ≤ 5000) (A : Nat) (hA : A < 2 ^ 65) : Q.shd (wholeW rm m e A).1 188 = 0 := by
  refine Q.shd_eq_zero.2 ?_
  obtain ⟨K, hK⟩ : ∃ K, K = 32 * 188 := ⟨_, rfl⟩
  rw [← hK]
  have h1 : 65 + 5000 ≤ K := by omega
  unfold wholeW
  split
  · have hp := Nat.two_pow_pos e.toNat
    have h2 : A * 2 ^ e.toNat < 2 ^ 65 * 2 ^ e.toNat := Nat.mul_lt_mul_of_pos_right hA hp
    rw [← Nat.pow_add] at h2
    exact Nat.lt_of_lt_of_le h2 (Nat.pow_le_pow_right (by decide) (by omega))
  · have h2 : 2 ^ 66 ≤ 2 ^ K := Nat.pow_le_pow_right (by decide) (by omega)
    have h3 := Nat.div_le_self A (2 ^ (-e).toNat)
    show _ + _ < _
    split <;> omega
theorem whole_lt (wd u m : Bool) (v : Nat) (h : ¬ farV wd u m < v) : v < 18446744073709551616 := by
  have := farV_lt wd u m; omega
theorem ToInt_r (sz : Int) (d : Bool) (hsz : Hid (SzOk sz d)) (rm : Int) (hrm : Hid (0 ≤ rm ∧ rm ≤ 4)) (wd u : Bool) (a : Nat) (ha : Hid (a < 18446744073709551616)) (w : World) :
    Calls Try.prog 17 #[.int .i64 sz, .int .i64 rm, .bool wd, .bool u, .int .u64 a] w (RetP (toIntR d rm wd u a) w) := by
  refine ToInt_core sz d hsz rm hrm wd u a ha _ _ _ (wholeW rm (minusN d a) (Q.ofE d a) (Q.ofM d a)).1 (wholeW rm (minusN d a) (Q.ofE d a) (Q.ofM d a)).2 _ _ (toIntR d rm wd u a) rfl rfl rfl rfl rfl rfl _ _ rfl rfl ?_ (whole_bd rm _ _ (ofE_bd d a).2 _ (ofM_lt d a)) ?_ w
  · show _ = _
    unfold toIntR endV
    cases nanX d a
    · cases infX d a
      · cases minusN d a <;> simp
      · cases minusN d a <;> simp
    · simp
  · show _ → _
    rintro (h | h)
    · exact whole_lt wd u true _ (of_decide_eq_false h)
    · exact whole_lt wd u false _ (of_decide_eq_false h)
theorem moreW_away (rm : Int) (hr : 0 ≤ rm ∧ rm ≤ 4) (m : Bool) (g k : Nat) : moreW rm m (decide (Q.bitN g k = 1)) (decide (g % 2 ^ k = 0)) (decide (Q.bitN (g / 2 ^ (k + 1)) 0 = 1)) (decide (g % 2 ^ (k + 1) = 0)) = awayV rm m (g / 2 ^ (k + 1)) (restV g (k + 1)) := by
  show _ = Q.awayV rm m (g / 2 ^ (k + 1)) (Q.restV g (k + 1))
  have hz := Q.mod_half g k
  rw [Q.rest_half]
  have c : rm = 0 ∨ rm = 1 ∨ rm = 2 ∨ rm = 3 ∨ rm = 4 := by omega
  have hb0 : Q.bitN (g / 2 ^ (k + 1)) 0 = g / 2 ^ (k + 1) % 2 := by unfold Q.bitN; rw [Nat.pow_zero, Nat.div_one]
  rw [hb0]
  unfold moreW Q.awayV
  rcases bit01 g k with b | b <;> by_cases z : g % 2 ^ k = 0 <;> rcases c with rfl | rfl | rfl | rfl | rfl <;> cases m <;> simp [b, z, hz]
theorem wholeV_W (rm : Int) (hr : 0 ≤ rm ∧ rm ≤ 4) (m : Bool) (e : Int) (g : Nat) (h : ¬ 64 < (blen g : Int) + e) : (wholeV rm m e g).1 = (wholeW rm m e g).1 ∧ (wholeV rm m e g).2.1 = !(wholeW rm m e g).2 ∧ (wholeV rm m e g).2.2 = true := by
  unfold wholeV wholeW
  by_cases h0 : g = 0
  · subst h0
    rw [if_pos rfl]
    split
    · simp
    · refine ⟨?_, by simp, rfl⟩
      have hx : ∀ k, moreW rm m (decide (Q.bitN 0 k = 1)) (decide (0 % 2 ^ k = 0)) (decide (Q.bitN (0 / 2 ^ (-e).toNat) 0 = 1)) (decide (0 % 2 ^ (-e).toNat = 0)) = false := by
        intro k
        have c : rm = 0 ∨ rm = 1 ∨ rm = 2 ∨ rm = 3 ∨ rm = 4 := by omega
        unfold moreW Q.bitN
        rcases c with rfl | rfl | rfl | rfl | rfl <;> simp
      show 0 = 0 / 2 ^ (-e).toNat + _
      rw [hx]; simp
  · rw [if_neg h0, if_neg h]
    split
    · exact ⟨rfl, rfl, rfl⟩
    · next he =>
      obtain ⟨k, hk⟩ : ∃ k : Nat, (-e).toNat = k + 1 := ⟨(-e).toNat - 1, by omega⟩
      rw [hk, Nat.add_sub_cancel]
      refine ⟨?_, ?_, rfl⟩
      · show cutK rm m g (k + 1) = _
        unfold cutK
        rw [moreW_away rm hr m g k]
      · show diffV g (k + 1) = _
        unfold diffV
        obtain ⟨h1, h2⟩ | ⟨h1, h2, -⟩ | h3 := rest_cases g (k + 1)
        · simp [h1, h2]
        · simp [h1, h2]
        · rcases h3 with ⟨h1, h2, -⟩ | ⟨h1, h2, -⟩ <;> simp [h1, h2]
theorem blen_65 (d : Bool) (a : Nat) : Q.ofM d a < 2 ^ 53 := by
  have h : a % Q.fracT d < Q.fracT d := Nat.mod_lt _ (by cases d <;> decide)
  have h2 : Q.fracT d ≤ 2 ^ 52 := by cases d <;> decide
  unfold Q.ofM; split <;> omega
theorem ofE_top (d : Bool) (a : Nat) (h : (if a / Q.fracT d % Q.expT d = 0 then a % Q.fracT d else a % Q.fracT d + Q.fracT d) = 0) : Q.ofE d a ≤ 0 := by
  have hT : 0 < Q.fracT d := by cases d <;> decide
  have hb : 0 ≤ Q.bias d := by cases d <;> decide
  have hf : 1 ≤ Q.fb d := by cases d <;> decide
  unfold Q.ofE
  split at h
  · next e => rw [if_pos e]; omega
  · omega
theorem toInt_eq (d : Bool) (rm : Int) (hr : 0 ≤ rm ∧ rm ≤ 4) (wd u : Bool) (a : Nat) : toIntV d rm wd u a = toIntR d rm wd u a := by
  obtain ⟨-, h2, h3⟩ := cls_parts d a
  unfold toIntV toIntR
  rw [h2, h3, readE_Q, readG_Q]
  simp only
  by_cases c8 : clsV d a = 8
  · simp [c8]
  · by_cases c9 : clsV d a = 9
    · simp [c9]
    · by_cases c7 : clsV d a = 7
      · simp [c7]
      · by_cases c0 : clsV d a = 0
        · simp [c0]
        · simp only [c8, c9, c7, c0, or_self, if_false, Bool.or_false, Bool.false_eq_true, beq_eq_false_iff_ne.2 c8, beq_eq_false_iff_ne.2 c9, beq_eq_false_iff_ne.2 c7, beq_eq_false_iff_ne.2 c0]
          by_cases hb : 64 < (blen (Q.ofM d a) : Int) + Q.ofE d a
          · have hl := Q.blen_le (Q.ofM d a) 53 (blen_65 d a)
            have h0 : Q.ofM d a ≠ 0 := by
              intro e; rw [e] at hb hl
              have hE := ofE_top d a (by unfold Q.ofM at e; exact e)
              have : (blen 0 : Int) = 0 := rfl
              omega
            have hs : (wholeV rm (minusN d a) (Q.ofE d a) (Q.ofM d a)).2.2 = false := by unfold wholeV; rw [if_neg h0, if_pos hb]
            rw [hs, if_pos (Or.inl rfl)]
            have hw : farV wd u (minusN d a) < (wholeW rm (minusN d a) (Q.ofE d a) (Q.ofM d a)).1 := by
              have hbl : (blen (Q.ofM d a) : Int) ≤ 53 := by exact_mod_cast hl
              have he : 0 ≤ Q.ofE d a := by omega
              unfold wholeW
              rw [if_pos he]
              obtain ⟨q1, q2, q3⟩ := Q.blen_bounds (Q.ofM d a) h0
              have hbQ : blen (Q.ofM d a) = Q.blen (Q.ofM d a) := rfl
              rw [hbQ] at hb
              have h5 : 2 ^ 64 ≤ Q.ofM d a * 2 ^ (Q.ofE d a).toNat := by
                refine Nat.le_trans ?_ (Nat.mul_le_mul_right _ q2)
                rw [← Nat.pow_add]
                exact Nat.pow_le_pow_right (by decide) (by omega)
              have h6 := farV_lt wd u (minusN d a)
              exact Nat.lt_of_lt_of_le h6 h5
            rw [if_pos hw]
          · obtain ⟨w1, w2, w3⟩ := wholeV_W rm hr (minusN d a) (Q.ofE d a) (Q.ofM d a) hb
            rw [w1, w2, w3]
            by_cases hw : farV wd u (minusN d a) < (wholeW rm (minusN d a) (Q.ofE d a) (Q.ofM d a)).1
            · rw [if_pos (Or.inr hw), if_pos hw]
            · rw [if_neg (by rintro (q | q); cases q; exact hw q), if_neg hw]
              cases (wholeW rm (minusN d a) (Q.ofE d a) (Q.ofM d a)).2 <;> rfl
end Go.Proofs.Yteinjalnkhfecaa
