/- Times a power of two: the mathematics of SoftScales. -/
import Derived.Test.YtnmkahdgfakpiaaG9
namespace Go.Proofs.Ytnmkahdgfakpiaa
set_option linter.unusedVariables false
set_option linter.unusedSimpArgs false
theorem read_two (d : Bool) (t : Nat) (h1 : 1 ≤ t) (h2 : (t : Int) ≤ 2 * bias d) : readN d (t * fracT d) = ⟨1, false, (t : Int) - bias d - fb d, fracT d⟩ := by
  have hT : 0 < fracT d := by cases d <;> decide
  obtain ⟨-, -, -, -, -, -, -, l7⟩ := lay_facts d
  have hI : t * fracT d < infB d := by
    have h3 : ((t * fracT d : Nat) : Int) < (infB d : Int) := by
      rw [l7, Int.natCast_mul]
      have h4 : (t : Int) * (fracT d : Int) ≤ (2 * bias d) * (fracT d : Int) := Int.mul_le_mul_of_nonneg_right h2 (by omega)
      rw [Int.add_mul]; omega
    omega
  have hr := read_shape d false (t * fracT d) hI
  rw [Nat.mul_div_cancel _ hT, Nat.mul_mod_left, if_pos (by omega), Nat.zero_add] at hr
  have e : noughtV d false + t * fracT d = t * fracT d := by show 0 + _ = _; omega
  rw [e] at hr; exact hr
/-- The same number, its exponent e more: as it is raised. -/
def Sc (e : Int) (A X : Num) : Prop := A.cls = 1 ∧ X.cls = 1 ∧ X.minus = A.minus ∧ (raisedN X 127).mag = (raisedN A 127).mag ∧ (raisedN X 127).exp = (raisedN A 127).exp + e
def Sc2 (e : Int) (A X : Num) : Prop := (FinF A ∧ FinF X ∧ Sc e A X) ∨ (A.cls = 0 ∧ A.mag = 0 ∧ X.cls = 0 ∧ X.mag = 0 ∧ X.minus = A.minus)
theorem val_shift {A X : Num} {e : Int} (hA : A.mag ≠ 0 ∧ A.mag < 2 ^ 128 ∧ -10000 ≤ A.exp) (hX : X.mag ≠ 0 ∧ X.mag < 2 ^ 128 ∧ -10000 ≤ X.exp) (he : -100 ≤ e) (hv : val X = A.mag * 2 ^ (A.exp + e + 20000).toNat) :
    (raisedN X 127).mag = (raisedN A 127).mag ∧ (raisedN X 127).exp = (raisedN A 127).exp + e := by
  have b1 := blen_le _ _ hA.2.1
  have b2 := blen_le _ _ hX.2.1
  obtain ⟨-, r1, r2⟩ := raised_mag hA.1 (by decide : 127 ≤ 127) b1
  obtain ⟨-, s1, s2⟩ := raised_mag hX.1 (by decide : 127 ≤ 127) b2
  have v1 := val_raise (M := ⟨A.cls, A.minus, A.exp + e, A.mag⟩) hA.1 (by decide : 127 ≤ 127) b1 (by show -19000 ≤ A.exp + e; omega)
  have v2 := val_raise hX.1 (by decide : 127 ≤ 127) b2 (by omega)
  have n1 : (raisedN A 127).exp = A.exp - (((127 : Nat) : Int) + 1 - (blen A.mag : Int)) := rfl
  have n2 : (raisedN X 127).exp = X.exp - (((127 : Nat) : Int) + 1 - (blen X.mag : Int)) := rfl
  have n3 : (raisedN ⟨A.cls, A.minus, A.exp + e, A.mag⟩ 127).exp = A.exp + e - (((127 : Nat) : Int) + 1 - (blen A.mag : Int)) := rfl
  have n4 : (raisedN ⟨A.cls, A.minus, A.exp + e, A.mag⟩ 127).mag = (raisedN A 127).mag := rfl
  have h := val_inj s1 s2 r1 r2 (show -20000 ≤ (raisedN X 127).exp by omega) (show -20000 ≤ (raisedN ⟨A.cls, A.minus, A.exp + e, A.mag⟩ 127).exp by omega) (by
    have e1 : val (raisedN X 127) = val (raisedN ⟨A.cls, A.minus, A.exp + e, A.mag⟩ 127) := by rw [v1, v2, hv]; rfl
    exact e1)
  exact ⟨h.1, by omega⟩
/-- A product with a power of two that is exact. -/
theorem scale_num (d : Bool) (rm : Int) (A : Num) (t : Nat) (h1 : 1 ≤ t) (h2 : (t : Int) ≤ 2 * bias d) (hA : Fin2 A) (hz : A.cls = 0 → A = ⟨0, A.minus, 0, 0⟩) (he : -100 ≤ (t : Int) - bias d) (h : (mulF d rm A (readN d (t * fracT d))).2 = 0) :
    Sc2 ((t : Int) - bias d) A (readN d (mulF d rm A (readN d (t * fracT d))).1) := by
  obtain ⟨lf, lT, l2, l3, l4, l5, l6, l7⟩ := lay_facts d
  rw [read_two d t h1 h2] at h ⊢
  rcases hA with hA | hA
  · left
    have hB : FinF ⟨1, false, (t : Int) - bias d - fb d, fracT d⟩ := by
      refine ⟨rfl, ?_, ?_, ?_, ?_⟩
      · show fracT d ≠ 0; cases d <;> decide
      · show fracT d < 2 ^ 53; cases d <;> decide
      · show -1074 ≤ (t : Int) - bias d - fb d; omega
      · show (t : Int) - bias d - fb d ≤ 971
        cases d
        · have : bias false = 127 := rfl
          omega
        · have e1 : bias true = 1023 := rfl
          have e2 : (fb true : Int) = 52 := rfl
          omega
    obtain ⟨e1, p0, p1, p2⟩ := mulF_fin d rm A _ hA hB
    rw [e1] at h ⊢
    obtain ⟨X, hX, hX1, hXm, hXv⟩ := round_exact d rm _ p0 p1 p2 h
    have hXf := flt_fin hX hX1
    have hrd : readN d (roundF d rm (prodN A ⟨1, false, (t : Int) - bias d - fb d, fracT d⟩)).1 = X := by obtain ⟨_, _, _, _, hr⟩ := hX; exact hr
    rw [hrd]
    have bA := hA.2.2.2
    have hv : val X = A.mag * 2 ^ (A.exp + ((t : Int) - bias d) + 20000).toNat := by
      rw [hXv]
      show A.mag * fracT d * 2 ^ (A.exp + ((t : Int) - bias d - fb d) + 20000).toNat = _
      rw [lT]
      exact pow_join A.mag (fb d) (A.exp + ((t : Int) - bias d - fb d)) (A.exp + ((t : Int) - bias d)) (by omega) (by omega)
    refine ⟨hA, hXf, hA.1, hX1, ?_, val_shift (finF_ok hA) (finF_ok hXf) he hv⟩
    rw [hXm]; show (A.minus != false) = A.minus; cases A.minus <;> rfl
  · right
    have hA0 := hz hA.1
    have e : mulF d rm A ⟨1, false, (t : Int) - bias d - fb d, fracT d⟩ = (noughtV d A.minus, 0) := by
      have hp : productN A ⟨1, false, (t : Int) - bias d - fb d, fracT d⟩ = ⟨0, A.minus, 0, 0⟩ := by
        unfold productN
        rw [if_neg (by show ¬ (2 ≤ A.cls ∨ 2 ≤ 1); omega), if_neg (by show ¬ (A.cls = 1 ∧ (1 : Nat) = 1); omega)]
        congr 1; cases A.minus <;> rfl
      unfold mulF
      rw [if_neg (by show ¬ (A.cls = 0 ∧ (1 : Nat) = 2 ∨ A.cls = 2 ∧ (1 : Nat) = 0); omega), hp, if_neg (by show ¬ (someV 0 0 = true); decide)]
      rfl
    rw [e]
    show A.cls = 0 ∧ A.mag = 0 ∧ (readN d (noughtV d A.minus)).cls = 0 ∧ (readN d (noughtV d A.minus)).mag = 0 ∧ (readN d (noughtV d A.minus)).minus = A.minus
    rw [readN_zeroB]
    exact ⟨hA.1, hA.2, rfl, rfl, rfl⟩
theorem raise_126 {M : Num} (h : FinF M) : (raisedN M 127).mag = (raisedN M 126).mag * 2 ∧ (raisedN M 126).exp = (raisedN M 127).exp + 1 := by
  have l1 := blen_le _ _ h.2.2.1
  have l2 := (blen_bounds _ h.2.1).1
  have a := (raised_mag h.2.1 (by decide : 127 ≤ 127) (by omega)).1
  have b := (raised_mag h.2.1 (by decide : 126 ≤ 127) (by omega)).1
  refine ⟨?_, ?_⟩
  · rw [a, b, show 127 + 1 - blen M.mag = (126 + 1 - blen M.mag) + 1 by omega, Nat.pow_succ, Nat.mul_assoc]
  · show M.exp - (((126 : Nat) : Int) + 1 - (blen M.mag : Int)) = M.exp - (((127 : Nat) : Int) + 1 - (blen M.mag : Int)) + 1; omega
theorem add_shift (e : Int) (a b x y : Num) (h1 : a.cls = 1) (h2 : x.cls = 1) (h3 : x.minus = a.minus) (h4 : y.minus = b.minus) (h5 : x.mag = a.mag) (h6 : y.mag = b.mag) (h7 : x.exp = a.exp + e) (h8 : y.exp = b.exp + e) :
    ((addN a b).cls = 0 ∧ (addN x y).cls = 0) ∨ ((addN a b).cls = 1 ∧ (addN x y).cls = 1 ∧ (addN x y).minus = (addN a b).minus ∧ (addN x y).mag = (addN a b).mag ∧ (addN x y).exp = (addN a b).exp + e) := by
  have en : (x.exp - y.exp).toNat = (a.exp - b.exp).toNat := by omega
  unfold addN
  simp only [h3, h4, h5, h6, en]
  by_cases c1 : a.minus = b.minus
  · rw [if_pos c1, if_pos c1]; exact .inr ⟨h1, h2, rfl, rfl, h7⟩
  · rw [if_neg c1, if_neg c1]
    by_cases c2 : a.mag = rsticky b.mag (a.exp - b.exp).toNat
    · rw [if_pos c2, if_pos c2]; exact .inl ⟨rfl, rfl⟩
    · rw [if_neg c2, if_neg c2]; exact .inr ⟨h1, h2, rfl, rfl, h7⟩
theorem raised_same {M N : Num} {e : Int} (h1 : M.mag = N.mag) (h2 : M.exp = N.exp + e) : (raisedN M 127).mag = (raisedN N 127).mag ∧ (raisedN M 127).exp = (raisedN N 127).exp + e := by
  refine ⟨?_, ?_⟩
  · show shl M.mag (127 + 1 - blen M.mag) = shl N.mag (127 + 1 - blen N.mag); rw [h1]
  · show M.exp - (((127 : Nat) : Int) + 1 - (blen M.mag : Int)) = N.exp - (((127 : Nat) : Int) + 1 - (blen N.mag : Int)) + e; rw [h1, h2]; omega
/-- Sums of what is shifted alike are shifted, before they are rounded. -/
theorem total_shift (e : Int) (A B X Y : Num) (hA : Sc2 e A X) (hB : Sc2 e B Y) :
    ((totalN A B).cls = 0 ∧ (totalN X Y).cls = 0) ∨ Sc e (totalN A B) (totalN X Y) := by
  rcases hA with ⟨fA, fX, sA⟩ | ⟨a0, a1, x0, x1, am⟩
  · rcases hB with ⟨fB, fY, sB⟩ | ⟨b0, b1, y0, y1, bm⟩
    · have e1 : totalN A B = if swapB (raisedN A 126) (raisedN B 126) then addN (raisedN B 126) (raisedN A 126) else addN (raisedN A 126) (raisedN B 126) := by
        unfold totalN; rw [if_neg (by rw [fA.1]; decide), if_neg (by rw [fB.1]; decide)]
      have e2 : totalN X Y = if swapB (raisedN X 126) (raisedN Y 126) then addN (raisedN Y 126) (raisedN X 126) else addN (raisedN X 126) (raisedN Y 126) := by
        unfold totalN; rw [if_neg (by rw [fX.1]; decide), if_neg (by rw [fY.1]; decide)]
      obtain ⟨pa1, pa2⟩ := raise_126 fA; obtain ⟨pb1, pb2⟩ := raise_126 fB
      obtain ⟨px1, px2⟩ := raise_126 fX; obtain ⟨py1, py2⟩ := raise_126 fY
      obtain ⟨-, -, s3, s4, s5⟩ := sA
      obtain ⟨-, -, t3, t4, t5⟩ := sB
      have mx : (raisedN X 126).mag = (raisedN A 126).mag := by omega
      have my : (raisedN Y 126).mag = (raisedN B 126).mag := by omega
      have xx : (raisedN X 126).exp = (raisedN A 126).exp + e := by omega
      have xy : (raisedN Y 126).exp = (raisedN B 126).exp + e := by omega
      have ca : (raisedN A 126).cls = 1 := fA.1
      have cb : (raisedN B 126).cls = 1 := fB.1
      have cx : (raisedN X 126).cls = 1 := fX.1
      have cy : (raisedN Y 126).cls = 1 := fY.1
      have ma : (raisedN X 126).minus = (raisedN A 126).minus := s3
      have mb : (raisedN Y 126).minus = (raisedN B 126).minus := t3
      have hsw : swapB (raisedN X 126) (raisedN Y 126) = swapB (raisedN A 126) (raisedN B 126) := by
        unfold swapB; rw [mx, my, xx, xy]; rw [Bool.eq_iff_iff]; simp only [decide_eq_true_eq]; omega
      rw [e1, e2, hsw]
      clear e1 e2 pa1 pa2 pb1 pb2 px1 px2 py1 py2
      generalize raisedN A 126 = a at *; generalize raisedN B 126 = b at *; generalize raisedN X 126 = x at *; generalize raisedN Y 126 = y at *
      by_cases hs : swapB a b = true
      · rw [if_pos hs, if_pos hs]
        rcases add_shift e b a y x cb cy mb ma my mx xy xx with h | h
        · exact .inl h
        · exact .inr ⟨h.1, h.2.1, h.2.2.1, raised_same h.2.2.2.1 h.2.2.2.2⟩
      · rw [if_neg hs, if_neg hs]
        rcases add_shift e a b x y ca cx ma mb mx my xx xy with h | h
        · exact .inl h
        · exact .inr ⟨h.1, h.2.1, h.2.2.1, raised_same h.2.2.2.1 h.2.2.2.2⟩
    · have e1 : totalN A B = A := by unfold totalN; rw [if_neg (by rw [fA.1]; decide), if_pos b0]
      have e2 : totalN X Y = X := by unfold totalN; rw [if_neg (by rw [fX.1]; decide), if_pos y0]
      rw [e1, e2]; exact .inr sA
  · have e1 : totalN A B = B := by unfold totalN; rw [if_pos a0]
    have e2 : totalN X Y = Y := by unfold totalN; rw [if_pos x0]
    rw [e1, e2]
    rcases hB with ⟨fB, fY, sB⟩ | ⟨b0, b1, y0, y1, bm⟩
    · exact .inr sB
    · exact .inl ⟨b0, y0⟩
end Go.Proofs.Ytnmkahdgfakpiaa
