/- The reference's Convert and FromInt. -/
import Derived.Test.YteinjalnkhfecaaZ3
import Derived.Test.YteinjalnkhfecaaZ2
import Derived.Test.YteinjalnkhfecaaQK16
import Derived.Test.YteinjalnkhfecaaB9
namespace Go.Proofs.Yteinjalnkhfecaa
open Go.ChangeShapes Go.WideShapes Go.ChangeAt Go.RowKit
set_option linter.unusedVariables false
set_option linter.unusedSimpArgs false
def cvtR (d : Bool) (rm : Int) (a : Nat) : Nat × Int :=
  if sigX (!d) a then (quietB d, 16) else if nanX (!d) a then (quietB d, 0) else if infX (!d) a then (infV d (minusN (!d) a), 0) else if zeroX (!d) a then (noughtV d (minusN (!d) a), 0)
  else Q.roundR d rm (minusN (!d) a) (Q.ofM (!d) a) (Q.ofE (!d) a) false
theorem ofM_lt (d : Bool) (a : Nat) : Q.ofM d a < 2 ^ 65 := by
  have h : a % Q.fracT d < Q.fracT d := Nat.mod_lt _ (by cases d <;> decide)
  have h2 : Q.fracT d ≤ 2 ^ 52 := by cases d <;> decide
  unfold Q.ofM; split <;> omega
theorem ofE_bd (d : Bool) (a : Nat) : -5000 ≤ Q.ofE d a ∧ Q.ofE d a ≤ 5000 := by
  have h : a / Q.fracT d % Q.expT d < Q.expT d := Nat.mod_lt _ (by cases d <;> decide)
  have h2 : Q.expT d ≤ 2048 := by cases d <;> decide
  have h3 : 0 ≤ Q.bias d ∧ Q.bias d ≤ 1023 := by cases d <;> decide
  have h4 : Q.fb d ≤ 52 := by cases d <;> decide
  unfold Q.ofE; split <;> omega
theorem ofM_ne (d : Bool) (a : Nat) (hz : zeroX d a = false) : Q.ofM d a ≠ 0 := by
  have h := (far_parts d a).1
  have hT : 0 < Q.fracT d := by cases d <;> decide
  unfold zeroX at hz
  have hz' := of_decide_eq_false hz
  unfold Q.ofM
  split
  · next e =>
    intro e2
    apply hz'
    rw [h]
    show a / Q.fracT d % Q.expT d * Q.fracT d + a % Q.fracT d = 0
    rw [e, e2]; simp
  · omega
set_option maxRecDepth 100000 in
theorem Convert_r0 (rm : Int) (hrm : Hid (0 ≤ rm ∧ rm ≤ 4)) (a : Nat) (ha : Hid (a < 18446744073709551616)) (w : World) : Calls Try.prog 21 #[.int .i64 4, .int .i64 rm, .int .u64 a] w (RetP (cvtR false rm a) w) := by
  have HT : Hid (cvtR false rm a = if sigX true a then (quietB false, 16) else if nanX true a then (quietB false, 0) else if infX true a then (infV false (minusN true a), 0) else if zeroX true a then (noughtV false (minusN true a), 0) else Q.roundR false rm (minusN true a) (Q.ofM true a) (Q.ofE true a) false) := rfl
  go_enter Try.func21, Try.ntmps21
  go_wp2_with fail
  refine (rright_m 4 false rfl rm hrm _).mono ?_; rintro e w1 ⟨rfl, bq⟩
  have HB := Lib.hid bq; clear bq
  go_wp2_with fail
  refine (rsig_c 8 true rfl a ha _).mono ?_; rintro e w2 ⟨rfl, bq⟩
  replace HB := Lib.hid (HB.out.trans (bq.mono HB.out.size)); clear bq
  cases hs : sigX true a
  · replace HT : Hid (cvtR false rm a = if nanX true a then (quietB false, 0) else if infX true a then (infV false (minusN true a), 0) else if zeroX true a then (noughtV false (minusN true a), 0) else Q.roundR false rm (minusN true a) (Q.ofM true a) (Q.ofE true a) false) := by show _ = _; rw [HT.out, hs]; rfl
    clear hs
    go_wp2_with fail
    refine (rnan_c 8 true rfl a ha _).mono ?_; rintro e wq ⟨rfl, bq⟩
    replace HB := Lib.hid (HB.out.trans (bq.mono HB.out.size)); clear bq
    cases hn : nanX true a
    · replace HT : Hid (cvtR false rm a = if infX true a then (infV false (minusN true a), 0) else if zeroX true a then (noughtV false (minusN true a), 0) else Q.roundR false rm (minusN true a) (Q.ofM true a) (Q.ofE true a) false) := by show _ = _; rw [HT.out, hn]; rfl
      clear hn
      go_wp2_with fail
      refine (rinf_c 8 true rfl a ha _).mono ?_; rintro e wq ⟨rfl, bq⟩
      replace HB := Lib.hid (HB.out.trans (bq.mono HB.out.size)); clear bq
      cases hi : infX true a
      · replace HT : Hid (cvtR false rm a = if zeroX true a then (noughtV false (minusN true a), 0) else Q.roundR false rm (minusN true a) (Q.ofM true a) (Q.ofE true a) false) := by show _ = _; rw [HT.out, hi]; rfl
        clear hi
        go_wp2_with fail
        refine (rzero_c 8 true rfl a ha _).mono ?_; rintro e wq ⟨rfl, bq⟩
        replace HB := Lib.hid (HB.out.trans (bq.mono HB.out.size)); clear bq
        cases hz : zeroX true a
        · have HO : Hid (cvtR false rm a = Q.roundR false rm (minusN true a) (Q.ofM true a) (Q.ofE true a) false) := by show _ = _; rw [HT.out, hz]; rfl
          have h0 := Lib.hid (ofM_ne true a hz)
          clear HT hz
          have hE := ofE_bd true a
          have hM := Lib.hid (ofM_lt true a)
          go_wp2_with fail
          refine (Q.of_s 8 true rfl a ha _).mono ?_; rintro e wq ⟨g, n, p, rfl, hA, bq⟩
          replace HB := Lib.hid (HB.out.trans (bq.mono HB.out.size)); clear bq
          have l1 := len3 hA.out hM.out
          go_wp2_with fail
          refine (Q.round_s _ 4 false rfl rm _ g n p _ _ false hA (by omega) h0 (Lib.hid (fun q => nomatch q)) hE.1 hE.2).mono ?_; rintro e wq ⟨rfl, bq⟩
          replace HB := Lib.hid (HB.out.trans (bq.mono HB.out.size)); clear bq
          go_wp2_with fail
          go_ret2
          exact retP_mk (by rw [HO.out]; rfl) (by rw [HO.out]; rfl) HB.out
        · have HO : Hid (cvtR false rm a = (noughtV false (minusN true a), 0)) := by show _ = _; rw [HT.out, hz]; rfl
          clear HT hz
          go_wp2_with fail
          refine (rminus_c 8 true rfl a ha _).mono ?_; rintro e wq ⟨rfl, bq⟩
          replace HB := Lib.hid (HB.out.trans (bq.mono HB.out.size)); clear bq
          go_wp2_with fail
          refine (rnought_c 4 false rfl _ _).mono ?_; rintro e wq ⟨rfl, bq⟩
          replace HB := Lib.hid (HB.out.trans (bq.mono HB.out.size)); clear bq
          go_wp2_with fail
          go_ret2
          exact retP_mk (by first | (rw [HO.out]; done) | (rw [HO.out]; rfl)) (by first | (rw [HO.out]; done) | (rw [HO.out]; rfl)) HB.out
      · have HO : Hid (cvtR false rm a = (infV false (minusN true a), 0)) := by show _ = _; rw [HT.out, hi]; rfl
        clear HT hi
        go_wp2_with fail
        refine (rminus_c 8 true rfl a ha _).mono ?_; rintro e wq ⟨rfl, bq⟩
        replace HB := Lib.hid (HB.out.trans (bq.mono HB.out.size)); clear bq
        go_wp2_with fail
        refine (Q.infinity_s 4 false rfl _ _).mono ?_; rintro e wq ⟨rfl, bq⟩
        replace HB := Lib.hid (HB.out.trans (bq.mono HB.out.size)); clear bq
        go_wp2_with fail
        go_ret2
        exact retP_mk (by first | (rw [HO.out]; done) | (rw [HO.out]; rfl)) (by first | (rw [HO.out]; done) | (rw [HO.out]; rfl)) HB.out
    · have HO : Hid (cvtR false rm a = (quietB false, 0)) := by show _ = _; rw [HT.out, hn]; rfl
      clear HT hn
      go_wp2_with fail
      refine (rquiet_c 4 false rfl _).mono ?_; rintro e wq ⟨rfl, bq⟩
      replace HB := Lib.hid (HB.out.trans (bq.mono HB.out.size)); clear bq
      go_wp2_with fail
      go_ret2
      exact retP_mk (by first | (rw [HO.out]; done) | (rw [HO.out]; rfl)) (by first | (rw [HO.out]; done) | (rw [HO.out]; rfl)) HB.out
  · have HO : Hid (cvtR false rm a = (quietB false, 16)) := by show _ = _; rw [HT.out, hs]; rfl
    clear HT hs
    go_wp2_with fail
    refine (rquiet_c 4 false rfl _).mono ?_; rintro e wq ⟨rfl, bq⟩
    replace HB := Lib.hid (HB.out.trans (bq.mono HB.out.size)); clear bq
    go_wp2_with fail
    go_ret2
    exact retP_mk (by first | (rw [HO.out]; done) | (rw [HO.out]; rfl)) (by first | (rw [HO.out]; done) | (rw [HO.out]; rfl)) HB.out
set_option maxRecDepth 100000 in
theorem Convert_r1 (rm : Int) (hrm : Hid (0 ≤ rm ∧ rm ≤ 4)) (a : Nat) (ha : Hid (a < 18446744073709551616)) (w : World) : Calls Try.prog 21 #[.int .i64 8, .int .i64 rm, .int .u64 a] w (RetP (cvtR true rm a) w) := by
  have HT : Hid (cvtR true rm a = if sigX false a then (quietB true, 16) else if nanX false a then (quietB true, 0) else if infX false a then (infV true (minusN false a), 0) else if zeroX false a then (noughtV true (minusN false a), 0) else Q.roundR true rm (minusN false a) (Q.ofM false a) (Q.ofE false a) false) := rfl
  go_enter Try.func21, Try.ntmps21
  go_wp2_with fail
  refine (rright_m 8 true rfl rm hrm _).mono ?_; rintro e w1 ⟨rfl, bq⟩
  have HB := Lib.hid bq; clear bq
  go_wp2_with fail
  refine (rsig_c 4 false rfl a ha _).mono ?_; rintro e w2 ⟨rfl, bq⟩
  replace HB := Lib.hid (HB.out.trans (bq.mono HB.out.size)); clear bq
  cases hs : sigX false a
  · replace HT : Hid (cvtR true rm a = if nanX false a then (quietB true, 0) else if infX false a then (infV true (minusN false a), 0) else if zeroX false a then (noughtV true (minusN false a), 0) else Q.roundR true rm (minusN false a) (Q.ofM false a) (Q.ofE false a) false) := by show _ = _; rw [HT.out, hs]; rfl
    clear hs
    go_wp2_with fail
    refine (rnan_c 4 false rfl a ha _).mono ?_; rintro e wq ⟨rfl, bq⟩
    replace HB := Lib.hid (HB.out.trans (bq.mono HB.out.size)); clear bq
    cases hn : nanX false a
    · replace HT : Hid (cvtR true rm a = if infX false a then (infV true (minusN false a), 0) else if zeroX false a then (noughtV true (minusN false a), 0) else Q.roundR true rm (minusN false a) (Q.ofM false a) (Q.ofE false a) false) := by show _ = _; rw [HT.out, hn]; rfl
      clear hn
      go_wp2_with fail
      refine (rinf_c 4 false rfl a ha _).mono ?_; rintro e wq ⟨rfl, bq⟩
      replace HB := Lib.hid (HB.out.trans (bq.mono HB.out.size)); clear bq
      cases hi : infX false a
      · replace HT : Hid (cvtR true rm a = if zeroX false a then (noughtV true (minusN false a), 0) else Q.roundR true rm (minusN false a) (Q.ofM false a) (Q.ofE false a) false) := by show _ = _; rw [HT.out, hi]; rfl
        clear hi
        go_wp2_with fail
        refine (rzero_c 4 false rfl a ha _).mono ?_; rintro e wq ⟨rfl, bq⟩
        replace HB := Lib.hid (HB.out.trans (bq.mono HB.out.size)); clear bq
        cases hz : zeroX false a
        · have HO : Hid (cvtR true rm a = Q.roundR true rm (minusN false a) (Q.ofM false a) (Q.ofE false a) false) := by show _ = _; rw [HT.out, hz]; rfl
          have h0 := Lib.hid (ofM_ne false a hz)
          clear HT hz
          have hE := ofE_bd false a
          have hM := Lib.hid (ofM_lt false a)
          go_wp2_with fail
          refine (Q.of_s 4 false rfl a ha _).mono ?_; rintro e wq ⟨g, n, p, rfl, hA, bq⟩
          replace HB := Lib.hid (HB.out.trans (bq.mono HB.out.size)); clear bq
          have l1 := len3 hA.out hM.out
          go_wp2_with fail
          refine (Q.round_s _ 8 true rfl rm _ g n p _ _ false hA (by omega) h0 (Lib.hid (fun q => nomatch q)) hE.1 hE.2).mono ?_; rintro e wq ⟨rfl, bq⟩
          replace HB := Lib.hid (HB.out.trans (bq.mono HB.out.size)); clear bq
          go_wp2_with fail
          go_ret2
          exact retP_mk (by rw [HO.out]; rfl) (by rw [HO.out]; rfl) HB.out
        · have HO : Hid (cvtR true rm a = (noughtV true (minusN false a), 0)) := by show _ = _; rw [HT.out, hz]; rfl
          clear HT hz
          go_wp2_with fail
          refine (rminus_c 4 false rfl a ha _).mono ?_; rintro e wq ⟨rfl, bq⟩
          replace HB := Lib.hid (HB.out.trans (bq.mono HB.out.size)); clear bq
          go_wp2_with fail
          refine (rnought_c 8 true rfl _ _).mono ?_; rintro e wq ⟨rfl, bq⟩
          replace HB := Lib.hid (HB.out.trans (bq.mono HB.out.size)); clear bq
          go_wp2_with fail
          go_ret2
          exact retP_mk (by first | (rw [HO.out]; done) | (rw [HO.out]; rfl)) (by first | (rw [HO.out]; done) | (rw [HO.out]; rfl)) HB.out
      · have HO : Hid (cvtR true rm a = (infV true (minusN false a), 0)) := by show _ = _; rw [HT.out, hi]; rfl
        clear HT hi
        go_wp2_with fail
        refine (rminus_c 4 false rfl a ha _).mono ?_; rintro e wq ⟨rfl, bq⟩
        replace HB := Lib.hid (HB.out.trans (bq.mono HB.out.size)); clear bq
        go_wp2_with fail
        refine (Q.infinity_s 8 true rfl _ _).mono ?_; rintro e wq ⟨rfl, bq⟩
        replace HB := Lib.hid (HB.out.trans (bq.mono HB.out.size)); clear bq
        go_wp2_with fail
        go_ret2
        exact retP_mk (by first | (rw [HO.out]; done) | (rw [HO.out]; rfl)) (by first | (rw [HO.out]; done) | (rw [HO.out]; rfl)) HB.out
    · have HO : Hid (cvtR true rm a = (quietB true, 0)) := by show _ = _; rw [HT.out, hn]; rfl
      clear HT hn
      go_wp2_with fail
      refine (rquiet_c 8 true rfl _).mono ?_; rintro e wq ⟨rfl, bq⟩
      replace HB := Lib.hid (HB.out.trans (bq.mono HB.out.size)); clear bq
      go_wp2_with fail
      go_ret2
      exact retP_mk (by first | (rw [HO.out]; done) | (rw [HO.out]; rfl)) (by first | (rw [HO.out]; done) | (rw [HO.out]; rfl)) HB.out
  · have HO : Hid (cvtR true rm a = (quietB true, 16)) := by show _ = _; rw [HT.out, hs]; rfl
    clear HT hs
    go_wp2_with fail
    refine (rquiet_c 8 true rfl _).mono ?_; rintro e wq ⟨rfl, bq⟩
    replace HB := Lib.hid (HB.out.trans (bq.mono HB.out.size)); clear bq
    go_wp2_with fail
    go_ret2
    exact retP_mk (by first | (rw [HO.out]; done) | (rw [HO.out]; rfl)) (by first | (rw [HO.out]; done) | (rw [HO.out]; rfl)) HB.out
theorem Convert_r (sz : Int) (d : Bool) (hsz : Hid (SzOk sz d)) (rm : Int) (hrm : Hid (0 ≤ rm ∧ rm ≤ 4)) (a : Nat) (ha : Hid (a < 18446744073709551616)) (w : World) : Calls Try.prog 21 #[.int .i64 sz, .int .i64 rm, .int .u64 a] w (RetP (cvtR d rm a) w) := by
  have hs : sz = if d then 8 else 4 := hsz.out
  subst hs
  cases d
  · exact Convert_r0 rm hrm a ha w
  · exact Convert_r1 rm hrm a ha w
end Go.Proofs.Yteinjalnkhfecaa
