/- Of other texts: what is needed here. -/
import Derived.Test.YteinjalnkhfecaaC10
import Derived.Test.YteinjalnkhfecaaB11
import Derived.Test.YteinjalnkhfecaaQX
namespace Go.Proofs.Yteinjalnkhfecaa.Q
set_option linter.unusedVariables false
set_option linter.unusedSimpArgs false
/-- Rounding a number whose highest bit is the highest of 64, and counts 2^top. -/
def roundZ (d : Bool) (rm : Int) (m : Bool) (top : Int) (g k : Nat) (df : Bool) : Nat × Int :=
  let carry := k / 2 ^ (fracB d + 1)
  if bias d < top + carry then (beyondV d rm m, 5)
  else if top < 1 - bias d then
    let n2 := 63 - fracB d + (1 - bias d - top).toNat
    (noughtV d m + cutK rm m g n2, if restV g n2 = 0 then 0 else (if top + carry < 1 - bias d then 3 else 1))
  else (noughtV d m + ((top + (bias d - 1)).toNat * fracT d + k), if df then 1 else 0)
theorem roundZ_rnd (d : Bool) (rm : Int) (m : Bool) (x : Int) (g : Nat) (h1 : 2 ^ 63 ≤ g) (h2 : g < 2 ^ 64) : roundZ d rm m (x + 63) g (cutK rm m g (63 - fracB d)) (diffV g (63 - fracB d)) = rnd d rm m g x := by
  have hb : blen g = 64 := blen_of g 63 (by intro e; subst e; exact absurd h1 (by decide)) h1 h2
  have ht : topB g x = x + 63 := by unfold topB; rw [hb]; omega
  obtain ⟨lf, -, -, l2, l3, l4, -, -⟩ := lay_facts d
  have l52 : fb d ≤ 52 := by cases d <;> decide
  have c1 : ∀ p : Int, x ≤ p → cutQ rm m g x p = cutK rm m g (p - x).toNat ∧ qrR g x p = restV g (p - x).toNat := fun p hp => by
    unfold cutQ cutK qrQ qrR; rw [if_pos hp, if_pos hp]; exact ⟨rfl, rfl⟩
  unfold roundZ rnd
  simp only
  rw [ht, (c1 (x + 63 - fb d) (by omega)).1, (c1 (x + 63 - fb d) (by omega)).2, show (x + 63 - (fb d : Int) - x).toNat = 63 - fracB d by omega, lf]
  by_cases hs : x + 63 < 1 - bias d
  · rw [(c1 (1 - bias d - fb d) (by omega)).1, (c1 (1 - bias d - fb d) (by omega)).2, if_pos hs, if_pos hs, show (1 - bias d - (fb d : Int) - x).toNat = 63 - fb d + (1 - bias d - (x + 63)).toNat by omega]
  · rw [if_neg hs, if_neg hs]
    unfold diffV
    by_cases hr : restV g (63 - fb d) = 0
    · simp [hr]
    · simp [hr]
/-- How the document cuts a number to a whole one. -/
def wholeR (rm : Int) (m : Bool) (e : Int) (g : Nat) : Nat × Bool := cutR rm m g (-e) false
theorem mod_half (g n : Nat) : (g % 2 ^ (n + 1) = 0) ↔ bitN g n = 0 ∧ g % 2 ^ n = 0 := by
  rw [half_split]
  have hp := Nat.two_pow_pos n
  constructor
  · intro h
    have h1 : bitN g n * 2 ^ n = 0 := by omega
    rcases Nat.mul_eq_zero.1 h1 with h2 | h2
    · exact ⟨h2, by omega⟩
    · omega
  · rintro ⟨h1, h2⟩; rw [h1, h2]; simp
end Go.Proofs.Yteinjalnkhfecaa.Q
namespace Go.Proofs.Yteinjalnkhfecaa
open Go.ChangeShapes Go.WideShapes Go.ChangeAt Go.RowKit
set_option linter.unusedVariables false
set_option linter.unusedSimpArgs false
theorem roundY_Q (d : Bool) (rm : Int) (m : Bool) (top : Int) (g k : Nat) (df : Bool) : roundY d rm m top g k df = Q.roundZ d rm m top g k df := rfl
theorem blen_Q (g : Nat) : blen g = Q.blen g := rfl
theorem roundV_R (d : Bool) (rm : Int) (m : Bool) (x : Int) (g : Nat) (h0 : g ≠ 0) (hg : g < 18446744073709551616) (hr : 0 ≤ rm ∧ rm ≤ 4) : roundV d rm m x g = Q.roundR d rm m g x false := by
  obtain ⟨u1, u2⟩ := upV_bounds g h0 hg
  have hb := Q.blen_le g 64 hg
  have hb2 := (Q.blen_bounds g h0).1
  rw [Q.roundR_rnd d rm m g x false g x (Or.inl ⟨rfl, rfl, rfl⟩) h0 (fun h => nomatch h) hr]
  unfold roundV
  rw [if_neg h0, roundY_Q, show x + (blen g : Int) - 1 = (x + (blen g : Int) - 64) + 63 by omega]
  have := Q.roundZ_rnd d rm m (x + (blen g : Int) - 64) (upV g) u1 u2
  rw [show Q.roundZ d rm m (x + (blen g : Int) - 64 + 63) (upV g) (cutK rm m (upV g) (63 - fracB d)) (diffV (upV g) (63 - fracB d)) = _ from this]
  show Q.rnd d rm m (g * 2 ^ (64 - blen g)) _ = _
  rw [Q.rnd_scale d rm m g _ _ h0]
  congr 1
  rw [blen_Q]
  omega
theorem ofE_bd (d : Bool) (a : Nat) : -5000 ≤ Q.ofE d a ∧ Q.ofE d a ≤ 5000 := by
  have h : a / Q.fracT d % Q.expT d < Q.expT d := Nat.mod_lt _ (by cases d <;> decide)
  have h2 : Q.expT d ≤ 2048 := by cases d <;> decide
  have h3 : 0 ≤ Q.bias d ∧ Q.bias d ≤ 1023 := by cases d <;> decide
  have h4 : Q.fb d ≤ 52 := by cases d <;> decide
  unfold Q.ofE; split <;> omega
/-- Whether the document's whole counts one more. -/
def moreW (rm : Int) (m half low odd none : Bool) : Bool :=
  if rm = 0 then half && (!low || odd) else if rm = 2 then m && !none else if rm = 3 then !m && !none else if rm = 4 then half else false
theorem field_eq (d : Bool) (a : Nat) : farN d a / fracT d = a / fracT d % expT d := by
  obtain ⟨h, h1, h2⟩ := far_parts d a
  have hT : 0 < fracT d := by cases d <;> decide
  rw [h, Nat.add_comm, Nat.add_mul_div_right _ _ hT, Nat.div_eq_of_lt h1, Nat.zero_add]
theorem readG_Q (d : Bool) (a : Nat) : readG d a = Q.ofM d a := by
  unfold readG Q.ofM
  rw [field_eq]
  rfl
theorem readE_Q (d : Bool) (a : Nat) : readE d a = Q.ofE d a := by
  unfold readE Q.ofE
  rw [field_eq]
  show (if a / fracT d % expT d = 0 then 1 - bias d - fb d else ((a / fracT d % expT d : Nat) : Int) - bias d - fb d) = (if a / fracT d % expT d = 0 then 1 else ((a / fracT d % expT d : Nat) : Int)) - bias d - fb d
  split <;> rfl
theorem cls_parts (d : Bool) (a : Nat) : (sigX d a = (clsV d a == 8)) ∧ (nanX d a = (clsV d a == 8 || clsV d a == 9)) ∧ (infX d a = (clsV d a == 7 || clsV d a == 0)) := by
  have hq : infB d < quietB d := by cases d <;> decide
  have hf : fracT d ≤ infB d := by cases d <;> decide
  have hf0 : 0 < fracT d := by cases d <;> decide
  unfold sigX nanX infX clsV clsX
  generalize infB d = i at *
  generalize quietB d = q at *
  generalize fracT d = f at *
  generalize farN d a = x at *
  by_cases c1 : q ≤ x
  · rw [if_pos c1]
    refine ⟨by simp; omega, by simp; omega, by simp; omega⟩
  · rw [if_neg c1]
    by_cases c2 : i < x
    · rw [if_pos c2]
      refine ⟨by simp; omega, by simp; omega, by simp; omega⟩
    · rw [if_neg c2]
      by_cases c3 : x = i
      · cases minusN d a <;> simp [c3]
      · refine ⟨?_, ?_, ?_⟩ <;> rw [Bool.eq_iff_iff] <;> simp only [decide_eq_true_eq, Bool.or_eq_true, beq_iff_eq, if_neg c3] <;> cases minusN d a <;> simp only [Bool.false_eq_true, if_false, if_true] <;> split <;> (try split) <;> omega
theorem wide_mod (x : Nat) : wideV (x % 4294967296) = wideV x := by unfold wideV; rw [Nat.mod_mod]
/-- The document's whole number, in plain words. -/
def wholeW (rm : Int) (m : Bool) (e : Int) (g : Nat) : Nat × Bool :=
  if 0 ≤ e then (g * 2 ^ e.toNat, true)
  else (g / 2 ^ (-e).toNat + (if moreW rm m (decide (Q.bitN g ((-e).toNat - 1) = 1)) (decide (g % 2 ^ ((-e).toNat - 1) = 0)) (decide (Q.bitN (g / 2 ^ (-e).toNat) 0 = 1)) (decide (g % 2 ^ (-e).toNat = 0)) then 1 else 0), decide (g % 2 ^ (-e).toNat = 0))
def toIntR (d : Bool) (rm : Int) (wd u : Bool) (a : Nat) : Nat × Int :=
  let r := wholeW rm (minusN d a) (Q.ofE d a) (Q.ofM d a)
  if nanX d a then (endV wd u false, 16) else if infX d a then (endV wd u (minusN d a), 16) else if farV wd u (minusN d a) < r.1 then (endV wd u (minusN d a), 16)
  else (numV wd (minusN d a) r.1, if r.2 then 0 else 1)
theorem bit01 (A k : Nat) : Q.bitN A k = 0 ∨ Q.bitN A k = 1 := by unfold Q.bitN; omega
theorem moreW_away (rm : Int) (hr : 0 ≤ rm ∧ rm ≤ 4) (m : Bool) (g k : Nat) : moreW rm m (decide (Q.bitN g k = 1)) (decide (g % 2 ^ k = 0)) (decide (Q.bitN (g / 2 ^ (k + 1)) 0 = 1)) (decide (g % 2 ^ (k + 1) = 0)) = awayV rm m (g / 2 ^ (k + 1)) (restV g (k + 1)) := by
  show _ = Q.awayV rm m (g / 2 ^ (k + 1)) (Q.restV g (k + 1))
  have hz := Q.mod_half g k
  rw [Q.rest_half]
  have c : rm = 0 ∨ rm = 1 ∨ rm = 2 ∨ rm = 3 ∨ rm = 4 := by omega
  have hb0 : Q.bitN (g / 2 ^ (k + 1)) 0 = g / 2 ^ (k + 1) % 2 := by unfold Q.bitN; rw [Nat.pow_zero, Nat.div_one]
  rw [hb0]
  unfold moreW Q.awayV
  rcases bit01 g k with b | b <;> by_cases z : g % 2 ^ k = 0 <;> rcases c with rfl | rfl | rfl | rfl | rfl <;> cases m <;> simp [b, z, hz]
theorem wholeV_W (rm : Int) (hr : 0 ≤ rm ∧ rm ≤ 4) (m : Bool) (e : Int) (g : Nat) (h : ¬ 64 < (blen g : Int) + e) : (wholeV rm m e g).1 = (wholeW rm m e g).1 ∧ (wholeV rm m e g).2.1 = !(wholeW rm m e g).2 ∧ (wholeV rm m e g).2.2 = true := by
  unfold wholeV wholeW
  by_cases h0 : g = 0
  · subst h0
    rw [if_pos rfl]
    split
    · simp
    · refine ⟨?_, by simp, rfl⟩
      have hx : ∀ k, moreW rm m (decide (Q.bitN 0 k = 1)) (decide (0 % 2 ^ k = 0)) (decide (Q.bitN (0 / 2 ^ (-e).toNat) 0 = 1)) (decide (0 % 2 ^ (-e).toNat = 0)) = false := by
        intro k
        have c : rm = 0 ∨ rm = 1 ∨ rm = 2 ∨ rm = 3 ∨ rm = 4 := by omega
        unfold moreW Q.bitN
        rcases c with rfl | rfl | rfl | rfl | rfl <;> simp
      show 0 = 0 / 2 ^ (-e).toNat + _
      rw [hx]; simp
  · rw [if_neg h0, if_neg h]
    split
    · exact ⟨rfl, rfl, rfl⟩
    · next he =>
      obtain ⟨k, hk⟩ : ∃ k : Nat, (-e).toNat = k + 1 := ⟨(-e).toNat - 1, by omega⟩
      rw [hk, Nat.add_sub_cancel]
      refine ⟨?_, ?_, rfl⟩
      · show cutK rm m g (k + 1) = _
        unfold cutK
        rw [moreW_away rm hr m g k]
      · show diffV g (k + 1) = _
        unfold diffV
        obtain ⟨h1, h2⟩ | ⟨h1, h2, -⟩ | h3 := rest_cases g (k + 1)
        · simp [h1, h2]
        · simp [h1, h2]
        · rcases h3 with ⟨h1, h2, -⟩ | ⟨h1, h2, -⟩ <;> simp [h1, h2]
theorem blen_65 (d : Bool) (a : Nat) : Q.ofM d a < 2 ^ 53 := by
  have h : a % Q.fracT d < Q.fracT d := Nat.mod_lt _ (by cases d <;> decide)
  have h2 : Q.fracT d ≤ 2 ^ 52 := by cases d <;> decide
  unfold Q.ofM; split <;> omega
theorem ofE_top (d : Bool) (a : Nat) (h : (if a / Q.fracT d % Q.expT d = 0 then a % Q.fracT d else a % Q.fracT d + Q.fracT d) = 0) : Q.ofE d a ≤ 0 := by
  have hT : 0 < Q.fracT d := by cases d <;> decide
  have hb : 0 ≤ Q.bias d := by cases d <;> decide
  have hf : 1 ≤ Q.fb d := by cases d <;> decide
  unfold Q.ofE
  split at h
  · next e => rw [if_pos e]; omega
  · omega
theorem toInt_eq (d : Bool) (rm : Int) (hr : 0 ≤ rm ∧ rm ≤ 4) (wd u : Bool) (a : Nat) : toIntV d rm wd u a = toIntR d rm wd u a := by
  obtain ⟨-, h2, h3⟩ := cls_parts d a
  unfold toIntV toIntR
  rw [h2, h3, readE_Q, readG_Q]
  simp only
  by_cases c8 : clsV d a = 8
  · simp [c8]
  · by_cases c9 : clsV d a = 9
    · simp [c9]
    · by_cases c7 : clsV d a = 7
      · simp [c7]
      · by_cases c0 : clsV d a = 0
        · simp [c0]
        · simp only [c8, c9, c7, c0, or_self, if_false, Bool.or_false, Bool.false_eq_true, beq_eq_false_iff_ne.2 c8, beq_eq_false_iff_ne.2 c9, beq_eq_false_iff_ne.2 c7, beq_eq_false_iff_ne.2 c0]
          by_cases hb : 64 < (blen (Q.ofM d a) : Int) + Q.ofE d a
          · have hl := Q.blen_le (Q.ofM d a) 53 (blen_65 d a)
            have h0 : Q.ofM d a ≠ 0 := by
              intro e; rw [e] at hb hl
              have hE := ofE_top d a (by unfold Q.ofM at e; exact e)
              have : (blen 0 : Int) = 0 := rfl
              omega
            have hs : (wholeV rm (minusN d a) (Q.ofE d a) (Q.ofM d a)).2.2 = false := by unfold wholeV; rw [if_neg h0, if_pos hb]
            rw [hs, if_pos (Or.inl rfl)]
            have hw : farV wd u (minusN d a) < (wholeW rm (minusN d a) (Q.ofE d a) (Q.ofM d a)).1 := by
              have hbl : (blen (Q.ofM d a) : Int) ≤ 53 := by exact_mod_cast hl
              have he : 0 ≤ Q.ofE d a := by omega
              unfold wholeW
              rw [if_pos he]
              obtain ⟨q1, q2, q3⟩ := Q.blen_bounds (Q.ofM d a) h0
              have hbQ : blen (Q.ofM d a) = Q.blen (Q.ofM d a) := rfl
              rw [hbQ] at hb
              have h5 : 2 ^ 64 ≤ Q.ofM d a * 2 ^ (Q.ofE d a).toNat := by
                refine Nat.le_trans ?_ (Nat.mul_le_mul_right _ q2)
                rw [← Nat.pow_add]
                exact Nat.pow_le_pow_right (by decide) (by omega)
              have h6 := farV_lt wd u (minusN d a)
              exact Nat.lt_of_lt_of_le h6 h5
            rw [if_pos hw]
          · obtain ⟨w1, w2, w3⟩ := wholeV_W rm hr (minusN d a) (Q.ofE d a) (Q.ofM d a) hb
            rw [w1, w2, w3]
            by_cases hw : farV wd u (minusN d a) < (wholeW rm (minusN d a) (Q.ofE d a) (Q.ofM d a)).1
            · rw [if_pos (Or.inr hw), if_pos hw]
            · rw [if_neg (by rintro (q | q); cases q; exact hw q), if_neg hw]
              cases (wholeW rm (minusN d a) (Q.ofE d a) (Q.ofM d a)).2 <;> rfl
/-- What a finite float that is not 0 reads as. -/
theorem flt_facts {d : Bool} {n : Nat} {C : Q.Num} (h : Q.Flt d n C) : sigX d n = false ∧ nanX d n = false ∧ infX d n = false ∧ zeroX d n = false ∧ minusN d n = C.minus ∧ Q.ofM d n = C.mag ∧ Q.ofE d n = C.exp ∧ C.mag ≠ 0 := by
  have hc := Q.flt_cls h
  obtain ⟨F, hn, h0, hI, hr⟩ := h
  have hfar : farN d n = F := by
    rw [hn]
    unfold farN
    cases d <;> cases C.minus <;> simp [Q.noughtV, Q.signB, Q.infB, signB] at * <;> omega
  have hm : minusN d n = C.minus := by
    rw [hn]
    unfold minusN
    cases d <;> cases C.minus <;> simp [Q.noughtV, Q.signB, Q.infB, signB] at * <;> omega
  have hIe : Q.infB d = infB d := rfl
  have hf := field_eq d n
  rw [hfar] at hf
  obtain ⟨p1, p2, p3⟩ := far_parts d n
  rw [hfar] at p1
  have hlt : n / fracT d % expT d ≠ expT d - 1 := by
    intro e
    rw [e] at p1
    have : infB d = (expT d - 1) * fracT d := by cases d <;> decide
    omega
  unfold Q.readN at hr
  have e1 : Q.expT d = expT d := rfl
  have e2 : Q.fracT d = fracT d := rfl
  simp only [e1, e2] at hr
  rw [if_neg hlt] at hr
  refine ⟨by unfold sigX; rw [hfar]; exact decide_eq_false (by omega), by unfold nanX; rw [hfar]; exact decide_eq_false (by omega), by unfold infX; rw [hfar]; exact decide_eq_false (by omega), by unfold zeroX; rw [hfar]; exact decide_eq_false (by omega), hm, ?_, ?_, ?_⟩
  · unfold Q.ofM
    by_cases hz : n / fracT d % expT d ≠ 0
    · rw [if_pos hz] at hr; rw [← hr]; exact if_neg hz
    · rw [if_neg hz] at hr
      have hz' : n / fracT d % expT d = 0 := by omega
      by_cases hq : n % fracT d ≠ 0
      · rw [if_pos hq] at hr; rw [← hr]; exact if_pos hz'
      · rw [if_neg hq] at hr; rw [← hr] at hc; cases hc
  · unfold Q.ofE
    by_cases hz : n / fracT d % expT d ≠ 0
    · rw [if_pos hz] at hr; rw [← hr]; exact congrArg (fun q : Int => q - Q.bias d - Q.fb d) (if_neg hz)
    · rw [if_neg hz] at hr
      have hz' : n / fracT d % expT d = 0 := by omega
      by_cases hq : n % fracT d ≠ 0
      · rw [if_pos hq] at hr; rw [← hr]; exact congrArg (fun q : Int => q - Q.bias d - Q.fb d) (if_pos hz')
      · rw [if_neg hq] at hr; rw [← hr] at hc; cases hc
  · by_cases hz : n / fracT d % expT d ≠ 0
    · rw [if_pos hz] at hr; rw [← hr]; have : 0 < fracT d := by cases d <;> decide
      show _ + _ ≠ 0; omega
    · rw [if_neg hz] at hr
      by_cases hq : n % fracT d ≠ 0
      · rw [if_pos hq] at hr; rw [← hr]; exact hq
      · rw [if_neg hq] at hr; rw [← hr] at hc; cases hc
/-- The code's rounding of 64 bits, as that of 128. -/
theorem roundV_F (d : Bool) (rm : Int) (m : Bool) (x : Int) (g : Nat) (h0 : g ≠ 0) (hg : g < 18446744073709551616) (hr : 0 ≤ rm ∧ rm ≤ 4) : roundV d rm m x g = Q.roundF d rm ⟨1, m, x, g⟩ := by
  rw [roundV_R d rm m x g h0 hg hr, Q.roundF_rnd d rm ⟨1, m, x, g⟩ h0 (Nat.lt_trans hg (by decide))]
  exact Q.roundR_rnd d rm m g x false g x (Or.inl ⟨rfl, rfl, rfl⟩) h0 (fun h => nomatch h) hr
/-- A number of few bits, of no far exponent, is rounded without flags. -/
theorem small_exact (d : Bool) (rm : Int) (m : Bool) (x : Int) (g : Nat) (h0 : g ≠ 0) (hg : g < 18446744073709551616) (hr : 0 ≤ rm ∧ rm ≤ 4) (hb : blen g ≤ fb d + 1) (t1 : 1 - bias d ≤ (blen g : Int) + x - 1) (t2 : (blen g : Int) + x - 1 ≤ bias d) : (roundV d rm m x g).2 = 0 := by
  rw [roundV_R d rm m x g h0 hg hr, Q.roundR_rnd d rm m g x false g x (Or.inl ⟨rfl, rfl, rfl⟩) h0 (fun h => nomatch h) hr]
  have ht : Q.topB g x = (blen g : Int) + x - 1 := rfl
  have e1 : Q.bias d = bias d := rfl
  have e2 : Q.fb d = fb d := rfl
  have hR : Q.qrR g x (Q.topB g x - Q.fb d) = 0 := by
    unfold Q.qrR
    rw [ht, e2]
    by_cases hp : x ≤ (blen g : Int) + x - 1 - (fb d : Int)
    · rw [if_pos hp, show ((blen g : Int) + x - 1 - (fb d : Int) - x).toNat = 0 by omega]
      unfold Q.restV
      rw [Nat.pow_zero, Nat.mod_one, if_pos rfl]
    · rw [if_neg hp]
  have hA : ∀ k, Q.awayV rm m k 0 = false := by
    intro k
    unfold Q.awayV
    have c : rm = 0 ∨ rm = 1 ∨ rm = 2 ∨ rm = 3 ∨ rm = 4 := by omega
    rcases c with rfl | rfl | rfl | rfl | rfl <;> simp
  have hC : Q.cutQ rm m g x (Q.topB g x - Q.fb d) = Q.qrQ g x (Q.topB g x - Q.fb d) := by unfold Q.cutQ; rw [hR, hA]; rfl
  have hq := (Q.qrQ_bounds g x (Q.topB g x - Q.fb d) h0 (by omega)).2
  rw [show (Q.topB g x - (Q.topB g x - (Q.fb d : Int))).toNat = Q.fb d by omega] at hq
  have hcar : Q.cutQ rm m g x (Q.topB g x - Q.fb d) / 2 ^ (Q.fb d + 1) = 0 := by rw [hC]; exact Nat.div_eq_of_lt hq
  unfold Q.rnd
  simp only
  rw [hcar, if_neg (by rw [ht, e1]; omega), if_neg (by rw [ht, e1]; omega), hR, if_pos rfl]
theorem moreW_none (rm : Int) (hr : 0 ≤ rm ∧ rm ≤ 4) (m : Bool) (odd : Bool) : moreW rm m false true odd true = false := by
  have c : rm = 0 ∨ rm = 1 ∨ rm = 2 ∨ rm = 3 ∨ rm = 4 := by omega
  unfold moreW
  rcases c with rfl | rfl | rfl | rfl | rfl <;> simp
/-- What has a whole number's value is cut to it. -/
theorem whole_val (rm : Int) (hr : 0 ≤ rm ∧ rm ≤ 4) (m : Bool) (e : Int) (g V : Nat) (he : -5000 ≤ e) (hv : g * 2 ^ (e + 20000).toNat = V * 2 ^ ((0 : Int) + 20000).toNat) : wholeW rm m e g = (V, true) := by
  obtain ⟨K, hK⟩ : ∃ K : Nat, ((0 : Int) + 20000).toNat = K := ⟨_, rfl⟩
  have hK2 : (K : Int) = 20000 := by omega
  rw [hK] at hv
  unfold wholeW
  by_cases h : 0 ≤ e
  · rw [if_pos h]
    have h1 : (e + 20000).toNat = e.toNat + K := by omega
    rw [h1, Nat.pow_add, ← Nat.mul_assoc] at hv
    have := Nat.eq_of_mul_eq_mul_right (Nat.two_pow_pos K) hv
    rw [this]
  · rw [if_neg h]
    obtain ⟨k, hk⟩ : ∃ k : Nat, (-e).toNat = k + 1 := ⟨(-e).toNat - 1, by omega⟩
    have h1 : K = (k + 1) + (e + 20000).toNat := by omega
    rw [h1, Nat.pow_add, ← Nat.mul_assoc] at hv
    have hg : g = V * 2 ^ (k + 1) := Nat.eq_of_mul_eq_mul_right (Nat.two_pow_pos _) hv
    have hp := Nat.two_pow_pos (k + 1)
    have hm : g % 2 ^ (k + 1) = 0 := by rw [hg]; exact Nat.mul_mod_left _ _
    have hd : g / 2 ^ (k + 1) = V := by rw [hg]; exact Nat.mul_div_cancel _ hp
    obtain ⟨z1, z2⟩ := (Q.mod_half g k).1 hm
    rw [hk, Nat.add_sub_cancel, hm, hd, z1, z2]
    have := moreW_none rm hr m (decide (Q.bitN V 0 = 1))
    simp [this]
theorem held_back (wd u : Bool) (x : Nat) (hx : x < 18446744073709551616) : ¬ farV wd u (heldM wd u x) < heldF wd u x ∧ numV wd (heldM wd u x) (heldF wd u x) = if wd then wideV x else x := by
  have hw : ∀ y, wideV y = if y % 4294967296 < 2147483648 then y % 4294967296 else y % 4294967296 + 18446744069414584320 := fun _ => rfl
  have hm : x % 4294967296 < 4294967296 := Nat.mod_lt _ (by decide)
  cases u
  · by_cases hs : 9223372036854775808 ≤ heldV wd false x
    · rw [← heldM_t hs, heldF_t hs]
      cases wd
      · have e : heldV false false x = x := rfl
        rw [e] at hs ⊢
        refine ⟨by show ¬ 9223372036854775808 < _; omega, ?_⟩
        show (18446744073709551616 - (18446744073709551616 - x) % 18446744073709551616) % 18446744073709551616 = x
        omega
      · have e : heldV true false x = wideV x := rfl
        rw [e] at hs ⊢
        have h1 := hw x
        have h2 : ¬ x % 4294967296 < 2147483648 := by intro q; rw [if_pos q] at h1; omega
        rw [if_neg h2] at h1
        refine ⟨by show ¬ 2147483648 < _; omega, ?_⟩
        show wideV ((18446744073709551616 - (18446744073709551616 - wideV x) % 18446744073709551616) % 18446744073709551616) = wideV x
        rw [show (18446744073709551616 - (18446744073709551616 - wideV x) % 18446744073709551616) % 18446744073709551616 = wideV x by omega, hw (wideV x), h1, show (x % 4294967296 + 18446744069414584320) % 4294967296 = x % 4294967296 by omega, if_neg h2]
    · rw [← heldM_f hs, heldF_f hs]
      cases wd
      · have e : heldV false false x = x := rfl
        rw [e] at hs ⊢
        exact ⟨by show ¬ 9223372036854775807 < _; omega, rfl⟩
      · have e : heldV true false x = wideV x := rfl
        rw [e] at hs ⊢
        have h1 := hw x
        have h2 : x % 4294967296 < 2147483648 := by
          by_cases q : x % 4294967296 < 2147483648
          · exact q
          · rw [if_neg q] at h1; omega
        rw [if_pos h2] at h1
        refine ⟨by show ¬ 2147483647 < _; omega, ?_⟩
        show wideV (wideV x) = wideV x
        rw [hw (wideV x), h1, Nat.mod_mod, if_pos h2]
  · have hM : heldM wd true x = false := rfl
    rw [hM, heldF_u]
    cases wd
    · have e : heldV false true x = x := rfl
      rw [e]
      exact ⟨by show ¬ 18446744073709551615 < _; omega, rfl⟩
    · have e : heldV true true x = x % 4294967296 := rfl
      rw [e]
      refine ⟨by show ¬ 4294967295 < _; omega, ?_⟩
      show wideV (x % 4294967296) = wideV x
      exact wide_mod x
end Go.Proofs.Yteinjalnkhfecaa
