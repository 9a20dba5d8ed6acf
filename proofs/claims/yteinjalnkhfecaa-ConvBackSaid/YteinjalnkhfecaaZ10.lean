/- There and back: whole numbers, floats of 4 bytes. -/
import Derived.Test.YteinjalnkhfecaaZ9
namespace Go.Proofs.Yteinjalnkhfecaa
open Go.ChangeShapes Go.WideShapes Go.ChangeAt Go.RowKit
set_option linter.unusedVariables false
set_option linter.unusedSimpArgs false
theorem moreW_none (rm : Int) (hr : 0 ≤ rm ∧ rm ≤ 4) (m : Bool) (odd : Bool) : moreW rm m false true odd true = false := by
  have c : rm = 0 ∨ rm = 1 ∨ rm = 2 ∨ rm = 3 ∨ rm = 4 := by omega
  unfold moreW
  rcases c with rfl | rfl | rfl | rfl | rfl <;> simp
/-- What has a whole number's value is cut to it. -/
theorem whole_val (rm : Int) (hr : 0 ≤ rm ∧ rm ≤ 4) (m : Bool) (e : Int) (g V : Nat) (he : -5000 ≤ e) (hv : g * 2 ^ (e + 20000).toNat = V * 2 ^ ((0 : Int) + 20000).toNat) : wholeW rm m e g = (V, true) := by
  obtain ⟨K, hK⟩ : ∃ K : Nat, ((0 : Int) + 20000).toNat = K := ⟨_, rfl⟩
  have hK2 : (K : Int) = 20000 := by omega
  rw [hK] at hv
  unfold wholeW
  by_cases h : 0 ≤ e
  · rw [if_pos h]
    have h1 : (e + 20000).toNat = e.toNat + K := by omega
    rw [h1, Nat.pow_add, ← Nat.mul_assoc] at hv
    have := Nat.eq_of_mul_eq_mul_right (Nat.two_pow_pos K) hv
    rw [this]
  · rw [if_neg h]
    obtain ⟨k, hk⟩ : ∃ k : Nat, (-e).toNat = k + 1 := ⟨(-e).toNat - 1, by omega⟩
    have h1 : K = (k + 1) + (e + 20000).toNat := by omega
    rw [h1, Nat.pow_add, ← Nat.mul_assoc] at hv
    have hg : g = V * 2 ^ (k + 1) := Nat.eq_of_mul_eq_mul_right (Nat.two_pow_pos _) hv
    have hp := Nat.two_pow_pos (k + 1)
    have hm : g % 2 ^ (k + 1) = 0 := by rw [hg]; exact Nat.mul_mod_left _ _
    have hd : g / 2 ^ (k + 1) = V := by rw [hg]; exact Nat.mul_div_cancel _ hp
    obtain ⟨z1, z2⟩ := (Q.mod_half g k).1 hm
    rw [hk, Nat.add_sub_cancel, hm, hd, z1, z2]
    have := moreW_none rm hr m (decide (Q.bitN V 0 = 1))
    simp [this]
theorem held_back (wd u : Bool) (x : Nat) (hx : x < 18446744073709551616) : ¬ farV wd u (heldM wd u x) < heldF wd u x ∧ numV wd (heldM wd u x) (heldF wd u x) = if wd then wideV x else x := by
  have hw : ∀ y, wideV y = if y % 4294967296 < 2147483648 then y % 4294967296 else y % 4294967296 + 18446744069414584320 := fun _ => rfl
  have hm : x % 4294967296 < 4294967296 := Nat.mod_lt _ (by decide)
  cases u
  · by_cases hs : 9223372036854775808 ≤ heldV wd false x
    · rw [← heldM_t hs, heldF_t hs]
      cases wd
      · have e : heldV false false x = x := rfl
        rw [e] at hs ⊢
        refine ⟨by show ¬ 9223372036854775808 < _; omega, ?_⟩
        show (18446744073709551616 - (18446744073709551616 - x) % 18446744073709551616) % 18446744073709551616 = x
        omega
      · have e : heldV true false x = wideV x := rfl
        rw [e] at hs ⊢
        have h1 := hw x
        have h2 : ¬ x % 4294967296 < 2147483648 := by intro q; rw [if_pos q] at h1; omega
        rw [if_neg h2] at h1
        refine ⟨by show ¬ 2147483648 < _; omega, ?_⟩
        show wideV ((18446744073709551616 - (18446744073709551616 - wideV x) % 18446744073709551616) % 18446744073709551616) = wideV x
        rw [show (18446744073709551616 - (18446744073709551616 - wideV x) % 18446744073709551616) % 18446744073709551616 = wideV x by omega, hw (wideV x), h1, show (x % 4294967296 + 18446744069414584320) % 4294967296 = x % 4294967296 by omega, if_neg h2]
    · rw [← heldM_f hs, heldF_f hs]
      cases wd
      · have e : heldV false false x = x := rfl
        rw [e] at hs ⊢
        exact ⟨by show ¬ 9223372036854775807 < _; omega, rfl⟩
      · have e : heldV true false x = wideV x := rfl
        rw [e] at hs ⊢
        have h1 := hw x
        have h2 : x % 4294967296 < 2147483648 := by
          by_cases q : x % 4294967296 < 2147483648
          · exact q
          · rw [if_neg q] at h1; omega
        rw [if_pos h2] at h1
        refine ⟨by show ¬ 2147483647 < _; omega, ?_⟩
        show wideV (wideV x) = wideV x
        rw [hw (wideV x), h1, Nat.mod_mod, if_pos h2]
  · have hM : heldM wd true x = false := rfl
    rw [hM, heldF_u]
    cases wd
    · have e : heldV false true x = x := rfl
      rw [e]
      exact ⟨by show ¬ 18446744073709551615 < _; omega, rfl⟩
    · have e : heldV true true x = x % 4294967296 := rfl
      rw [e]
      refine ⟨by show ¬ 4294967295 < _; omega, ?_⟩
      show wideV (x % 4294967296) = wideV x
      exact wide_mod x
theorem heldF_word (u : Bool) (x : Nat) : heldF true u x ≤ 4294967296 := by
  have hw : wideV x = if x % 4294967296 < 2147483648 then x % 4294967296 else x % 4294967296 + 18446744069414584320 := rfl
  have hm : x % 4294967296 < 4294967296 := Nat.mod_lt _ (by decide)
  cases u
  · have e : heldV true false x = wideV x := rfl
    by_cases hs : 9223372036854775808 ≤ heldV true false x
    · rw [heldF_t hs, e]
      rw [e] at hs
      split at hw <;> omega
    · rw [heldF_f hs, e]
      rw [e] at hs
      split at hw <;> omega
  · rw [heldF_u]
    show x % 4294967296 ≤ _
    omega
theorem from_word (rm : Int) (hr : 0 ≤ rm ∧ rm ≤ 4) (u : Bool) (x : Nat) (hx : x < 18446744073709551616) : (roundV true rm (heldM true u x) 0 (heldF true u x)).2 = 0 := by
  by_cases h0 : heldF true u x = 0
  · rw [h0]; rfl
  · have h1 := heldF_word u x
    have h2 := Q.blen_le (heldF true u x) 33 (by omega)
    have h3 := (Q.blen_bounds _ h0).1
    have e : blen (heldF true u x) = Q.blen (heldF true u x) := rfl
    have b1 : bias true = 1023 := rfl
    have b2 : fb true = 52 := rfl
    exact small_exact true rm _ 0 _ h0 (by omega) hr (by rw [e, b2]; omega) (by rw [e, b1]; omega) (by rw [e, b1]; omega)
theorem to_of_from (rm : Int) (hr : 0 ≤ rm ∧ rm ≤ 4) (wd u : Bool) (x : Nat) (hx : x < 18446744073709551616) (hf : (roundV true rm (heldM wd u x) 0 (heldF wd u x)).2 = 0) :
    toIntV true rm wd u (roundV true rm (heldM wd u x) 0 (heldF wd u x)).1 = (if wd then wideV x else x, 0) := by
  rw [toInt_eq true rm hr]
  obtain ⟨k1, k2⟩ := held_back wd u x hx
  have hl := heldF_lt wd u x hx
  by_cases h0 : heldF wd u x = 0
  · have hM : heldM wd u x = false := by
      unfold heldF at h0
      split at h0
      · next q =>
        have lV : heldV wd u x < 18446744073709551616 := by unfold heldV; split; split; omega; exact wideV_lt x; exact hx
        omega
      · next q => exact Bool.eq_false_iff.2 q
    rw [h0, hM] at k1 k2 ⊢
    have e0 : (roundV true rm false 0 0).1 = 0 := rfl
    rw [e0]
    have f1 : nanX true 0 = false := by decide
    have f2 : infX true 0 = false := by decide
    have f3 : minusN true 0 = false := by decide
    have f4 : Q.ofM true 0 = 0 := by decide
    have f5 : Q.ofE true 0 = -1074 := by decide
    unfold toIntR
    rw [f1, f2, f3, f4, f5, whole_val rm hr false (-1074) 0 0 (by decide) (by rw [Nat.zero_mul, Nat.zero_mul])]
    simp only [Bool.false_eq_true, if_false, if_true]
    rw [if_neg k1, k2]
  · have hF := roundV_F true rm (heldM wd u x) 0 (heldF wd u x) h0 hl hr
    rw [hF] at hf ⊢
    obtain ⟨C, c1, c2, c3, c4⟩ := Q.round_exact true rm ⟨1, heldM wd u x, 0, heldF wd u x⟩ h0 (Nat.lt_trans hl (by decide)) (by show -10000 ≤ (0 : Int); decide) hf
    obtain ⟨-, f1, f2, -, f3, f4, f5, f6⟩ := flt_facts c1
    have c3' : C.minus = heldM wd u x := c3
    have hE := (ofE_bd true (Q.roundF true rm ⟨1, heldM wd u x, 0, heldF wd u x⟩).1).1
    unfold toIntR
    rw [f5] at hE
    rw [f1, f2, f3, f4, f5, c3', whole_val rm hr _ C.exp C.mag (heldF wd u x) hE c4]
    simp only [Bool.false_eq_true, if_false, if_true]
    rw [if_neg k1, k2]
/-- A float of 4 bytes as one of 8, and back. -/
theorem back_nan (rm : Int) (hr : 0 ≤ rm ∧ rm ≤ 4) (a : Nat) (h : nanX false a = true) : cvtV true rm a = (quietB true, if sigX false a then 16 else 0) ∧ cvtV false rm (quietB true) = (quietB false, 0) := by
  rw [cvt_eq true rm hr, cvt_eq false rm hr]
  refine ⟨?_, ?_⟩
  · show (if sigX false a then (quietB true, 16) else if nanX false a then (quietB true, 0) else _) = _
    rw [h]
    cases sigX false a <;> rfl
  · have f1 : sigX true (quietB true) = false := by decide
    have f2 : nanX true (quietB true) = true := by decide
    show (if sigX true (quietB true) then _ else if nanX true (quietB true) then (quietB false, 0) else _) = _
    rw [f1, f2]; rfl
theorem back_num (rm : Int) (hr : 0 ≤ rm ∧ rm ≤ 4) (a : Nat) (h : nanX false a = false) : (cvtV true rm a).2 = 0 ∧ cvtV false rm (cvtV true rm a).1 = (a % 4294967296, 0) := by
  have hsig : sigX false a = false := by
    have := (cls_parts false a).1; have h2 := (cls_parts false a).2.1
    rw [h] at h2
    rw [this]
    cases hc : (clsV false a == 8)
    · rfl
    · rw [hc] at h2; cases h2
  have hmod : a % 4294967296 = noughtV false (minusN false a) + farN false a := by
    unfold minusN farN noughtV
    have e : signB false = 2147483648 := rfl
    rw [e]
    by_cases q : a / 2147483648 % 2 = 1
    · rw [decide_eq_true q]; simp only [if_true]; omega
    · rw [decide_eq_false q]; simp only [Bool.false_eq_true, if_false]; omega
  rw [cvt_eq true rm hr a]
  have hT : cvtR true rm a = if infX false a then (infV true (minusN false a), 0) else if zeroX false a then (noughtV true (minusN false a), 0) else Q.roundR true rm (minusN false a) (Q.ofM false a) (Q.ofE false a) false := by
    show (if sigX false a then _ else if nanX false a then _ else _) = _
    rw [hsig, h]; rfl
  rw [hT]
  cases hi : infX false a
  · cases hz : zeroX false a
    · -- a number
      simp only [Bool.false_eq_true, if_false]
      have hM0 := ofM_ne false a hz
      have hMl : Q.ofM false a < 2 ^ 24 := by
        have h1 : a % Q.fracT false < Q.fracT false := Nat.mod_lt _ (by decide)
        have h2 : Q.fracT false = 8388608 := rfl
        unfold Q.ofM; split <;> omega
      have hbl := Q.blen_le _ 24 hMl
      have hb1 := (Q.blen_bounds _ hM0).1
      have hEb : -149 ≤ Q.ofE false a ∧ Q.ofE false a ≤ 105 := by
        have h1 : a / Q.fracT false % Q.expT false < Q.expT false := Nat.mod_lt _ (by decide)
        have h2 : Q.expT false = 256 := rfl
        have h3 : Q.bias false = 127 := rfl
        have h4 : Q.fb false = 23 := rfl
        unfold Q.ofE
        rw [h3, h4]
        split <;> omega
      have hl64 : Q.ofM false a < 18446744073709551616 := by omega
      have eb : blen (Q.ofM false a) = Q.blen (Q.ofM false a) := rfl
      have b1 : bias true = 1023 := rfl
      have b2 : fb true = 52 := rfl
      have hx := small_exact true rm (minusN false a) (Q.ofE false a) (Q.ofM false a) hM0 hl64 hr (by rw [eb, b2]; omega) (by rw [eb, b1]; omega) (by rw [eb, b1]; omega)
      have hF := roundV_F true rm (minusN false a) (Q.ofE false a) (Q.ofM false a) hM0 hl64 hr
      rw [← roundV_R true rm (minusN false a) (Q.ofE false a) (Q.ofM false a) hM0 hl64 hr]
      refine ⟨hx, ?_⟩
      rw [hF] at hx ⊢
      obtain ⟨C, c1, c2, c3, c4⟩ := Q.round_exact true rm ⟨1, minusN false a, Q.ofE false a, Q.ofM false a⟩ hM0 (Nat.lt_trans hl64 (by decide)) (by show -10000 ≤ Q.ofE false a; omega) hx
      obtain ⟨f0, f1, f2, f3, f4, f5, f6, f7⟩ := flt_facts c1
      have c3' : C.minus = minusN false a := c3
      generalize (Q.roundF true rm ⟨1, minusN false a, Q.ofE false a, Q.ofM false a⟩).1 = b at *
      rw [cvt_eq false rm hr b]
      have hT2 : cvtR false rm b = Q.roundR false rm (minusN true b) (Q.ofM true b) (Q.ofE true b) false := by
        show (if sigX true b then _ else if nanX true b then _ else if infX true b then _ else if zeroX true b then _ else _) = _
        rw [f0, f1, f2, f3]; rfl
      have hCl : C.mag < 18446744073709551616 := by
        rw [← f5]; have := blen_65 true b; omega
      have hCe := ofE_bd true b
      rw [f6] at hCe
      rw [hT2, f4, f5, f6, c3', ← roundV_R false rm (minusN false a) C.exp C.mag f7 hCl hr, roundV_F false rm (minusN false a) C.exp C.mag f7 hCl hr]
      -- the float that a is
      have hfar : farN false a < infB false := by
        unfold nanX at h; unfold infX at hi
        have q1 := of_decide_eq_false h; have q2 := of_decide_eq_false hi; omega
      have hfar0 : 0 < farN false a := by
        unfold zeroX at hz
        have q1 := of_decide_eq_false hz; omega
      have hs := Q.read_shape false (minusN false a) (farN false a) hfar
      have hmq : Q.noughtV false (minusN false a) + farN false a = a % 4294967296 := hmod.symm
      rw [hmq] at hs
      obtain ⟨D, hD⟩ : ∃ D, Q.readN false (a % 4294967296) = D := ⟨_, rfl⟩
      have hDm : D.minus = minusN false a := by
        rw [← hD, hs]
        split
        · rfl
        · rw [if_pos (by omega)]
      have hFlt : Q.Flt false (a % 4294967296) D := ⟨farN false a, by rw [hDm]; exact hmod, hfar0, hfar, hD⟩
      obtain ⟨-, -, -, -, -, g1, g2, g3⟩ := flt_facts hFlt
      have m1 : Q.ofM false (a % 4294967296) = Q.ofM false a := by
        unfold Q.ofM
        have e1 : Q.fracT false = 8388608 := rfl
        have e2 : Q.expT false = 256 := rfl
        rw [e1, e2, show a % 4294967296 / 8388608 % 256 = a / 8388608 % 256 by omega, show a % 4294967296 % 8388608 = a % 8388608 by omega]
      have m2 : Q.ofE false (a % 4294967296) = Q.ofE false a := by
        unfold Q.ofE
        have e1 : Q.fracT false = 8388608 := rfl
        have e2 : Q.expT false = 256 := rfl
        rw [e1, e2, show a % 4294967296 / 8388608 % 256 = a / 8388608 % 256 by omega]
      rw [m1] at g1; rw [m2] at g2
      refine Q.round_val false rm ⟨1, minusN false a, C.exp, C.mag⟩ D (a % 4294967296) f7 (Nat.lt_trans hCl (by decide)) (by show -10000 ≤ C.exp; omega) hFlt ⟨g3, by rw [← g1]; omega, by rw [← g2]; omega⟩ ?_ hDm.symm
      show Q.val ⟨1, minusN false a, C.exp, C.mag⟩ = Q.val D
      have v1 : Q.val ⟨1, minusN false a, C.exp, C.mag⟩ = Q.val C := rfl
      rw [v1, c4]
      unfold Q.val
      rw [← g1, ← g2]
    · simp only [Bool.false_eq_true, if_false, if_true]
      refine ⟨trivial, ?_⟩
      rw [cvt_eq false rm hr, hmod]
      have z : farN false a = 0 := of_decide_eq_true hz
      rw [z]
      cases minusN false a <;> rfl
  · simp only [if_true]
    refine ⟨trivial, ?_⟩
    rw [cvt_eq false rm hr, hmod]
    have z : farN false a = infB false := of_decide_eq_true hi
    rw [z]
    cases minusN false a <;> rfl
end Go.Proofs.Yteinjalnkhfecaa
