/- Sums of what is shifted alike are shifted: rounded, where neither is subnormal. -/
import Derived.Test.YtnmkahdgfakpiaaG11
import Derived.Test.YtnmkahdgfakpiaaG10
namespace Go.Proofs.Ytnmkahdgfakpiaa
set_option linter.unusedVariables false
set_option linter.unusedSimpArgs false
/-- What a rounding tells that is neither too great nor too small: the float's bits are as the exponent and the cut say, its flag as the rest says. -/
theorem round_plain (d : Bool) (rm : Int) (m : Bool) (g : Nat) (x : Int) (F : Nat) (fl : Int) (g1 : 2 ^ 127 ≤ g) (g2 : g < 2 ^ 128)
    (h : roundX d rm m x g = (noughtV d m + F, fl)) (hfl : fl = 0 ∨ fl = 1) (hF : fracT d ≤ F) :
    (F : Int) = (x + 126 + bias d) * fracT d + (cutK rm m g (127 - fracB d) : Nat) ∧ fl = (if diffV g (127 - fracB d) then 1 else 0) ∧ F < infB d := by
  obtain ⟨lf, lT, l2, l3, l4, l5, l6, l7⟩ := lay_facts d
  have hT : 0 < fracT d := by cases d <;> decide
  have hK : fracT d ≤ g / 2 ^ (127 - fracB d) ∧ g / 2 ^ (127 - fracB d) < 2 * fracT d := by
    refine ⟨?_, ?_⟩
    · rw [Nat.le_div_iff_mul_le (Nat.two_pow_pos _)]; exact Nat.le_trans (by cases d <;> decide) g1
    · rw [Nat.div_lt_iff_lt_mul (Nat.two_pow_pos _)]; exact Nat.lt_of_lt_of_le g2 (by cases d <;> decide)
  have hck := cutK_le1 rm m g (127 - fracB d)
  obtain ⟨k, hk⟩ : ∃ k, k = cutK rm m g (127 - fracB d) := ⟨_, rfl⟩
  obtain ⟨K, hKe⟩ : ∃ K, K = g / 2 ^ (127 - fracB d) := ⟨_, rfl⟩
  have hcarry : k / 2 ^ (fracB d + 1) = if k = 2 * fracT d then 1 else 0 := by
    rw [l2]
    by_cases hc : k = 2 * fracT d
    · rw [if_pos hc, hc, Nat.div_self (by omega)]
    · rw [if_neg hc]; exact Nat.div_eq_of_lt (by omega)
  have hkc : k = K + (if awayV rm m K (restV g (127 - fracB d)) then 1 else 0) := by rw [hk, hKe]; rfl
  unfold roundX roundY at h
  simp only at h
  rw [← hk] at h
  rw [← hk, ← hKe] at hck
  rw [← hKe] at hK
  rw [hcarry] at h
  by_cases ho : bias d < x + 127 + (((if k = 2 * fracT d then 1 else 0 : Nat)) : Int)
  · rw [if_pos ho] at h
    have := congrArg Prod.snd h
    simp only at this; omega
  rw [if_neg ho] at h
  by_cases hs : x + 127 < 1 - bias d
  · rw [if_pos hs] at h
    obtain ⟨n2, hn2⟩ : ∃ n2, n2 = 127 - fracB d + (1 - bias d - (x + 127)).toNat := ⟨_, rfl⟩
    rw [← hn2] at h
    have e1 := congrArg Prod.fst h
    have e2 := congrArg Prod.snd h
    simp only at e1 e2
    have hFc : F = cutK rm m g n2 := by omega
    have hle := (cutK_le1 rm m g n2).2
    -- n2 is the next place: else F were too small
    obtain ⟨i, hi⟩ : ∃ i, n2 = 127 - fracB d + (i + 1) := ⟨n2 - (127 - fracB d) - 1, by omega⟩
    have hdd : g / 2 ^ n2 = K / 2 ^ (i + 1) := by rw [hi, Nat.pow_add, ← Nat.div_div_eq_div_mul, hKe]
    have hi0 : i = 0 := by
      apply Decidable.byContradiction; intro hne
      have h4 : 4 ≤ 2 ^ (i + 1) := by
        obtain ⟨j, rfl⟩ : ∃ j, i = j + 1 := ⟨i - 1, by omega⟩
        rw [Nat.pow_succ, Nat.pow_succ]; have := Nat.two_pow_pos j; omega
      have h5 : K / 2 ^ (i + 1) ≤ K / 4 := Nat.div_le_div_left h4 (by decide)
      have hT4 : 4 ≤ fracT d := by cases d <;> decide
      omega
    subst hi0
    have hpow : (2 : Nat) ^ (0 + 1) = 2 := by decide
    rw [hpow] at hdd
    have hx : x + 127 = - bias d := by omega
    have hrne : restV g n2 ≠ 0 := by
      intro h0
      have hg := rest_ne h0
      have hdm := Nat.div_add_mod g (2 ^ n2)
      rw [hg, Nat.add_zero, Nat.mul_comm] at hdm
      have := (cut_exact rm m (g / 2 ^ n2) n2).1
      rw [hdm] at this
      omega
    rw [if_neg hrne] at e2
    have hcar : k = 2 * fracT d := by
      apply Decidable.byContradiction; intro hne
      rw [if_neg hne] at e2
      rw [if_pos (by omega)] at e2; omega
    have hKk : K = 2 * fracT d - 1 ∧ awayV rm m K (restV g (127 - fracB d)) = true := by
      cases ha : awayV rm m K (restV g (127 - fracB d))
      · rw [ha] at hkc; simp at hkc; omega
      · rw [ha] at hkc; simp at hkc; exact ⟨by omega, rfl⟩
    have hFT : F = fracT d := by omega
    have hd1 : restV g (127 - fracB d) ≠ 0 := by
      intro h0; rw [h0, away_exact] at hKk; exact absurd hKk.2 (by decide)
    refine ⟨?_, ?_, ?_⟩
    · rw [← hk, hcar, hFT]
      have e : x + 126 + bias d = -1 := by omega
      rw [e]; omega
    · have hdv : diffV g (127 - fracB d) = true := decide_eq_true hd1
      rw [hdv, if_pos rfl]
      rcases hfl with h0 | h0
      · rw [if_neg (by rw [if_pos hcar]; omega)] at e2; omega
      · exact h0
    · rw [hFT]; cases d <;> decide
  · rw [if_neg hs] at h
    have e1 := congrArg Prod.fst h
    have e2 := congrArg Prod.snd h
    simp only at e1 e2
    obtain ⟨T, hTe⟩ : ∃ T, T = (x + 127 + (bias d - 1)).toNat := ⟨_, rfl⟩
    rw [← hTe] at e1
    have hTb : (T : Int) = x + 126 + bias d := by omega
    have hFe : F = T * fracT d + k := by omega
    refine ⟨?_, e2.symm, ?_⟩
    · rw [hFe, ← hTb, ← hk, Int.natCast_add, Int.natCast_mul]
    · have h1 : ((T * fracT d + k : Nat) : Int) < (infB d : Int) := by
        rw [l7]
        by_cases hc : k = 2 * fracT d
        · rw [if_pos hc] at ho
          have h2 : ((T : Int) + 2) * (fracT d : Int) ≤ (2 * bias d) * fracT d := Int.mul_le_mul_of_nonneg_right (by omega) (by omega)
          have h3 : ((T : Int) + 2) * (fracT d : Int) = ((T * fracT d : Nat) : Int) + 2 * fracT d := by rw [Int.add_mul, Int.natCast_mul]
          have h4 : (2 * bias d + 1) * (fracT d : Int) = 2 * bias d * fracT d + fracT d := by rw [Int.add_mul, Int.one_mul]
          omega
        · rw [if_neg hc] at ho
          have h2 : ((T : Int) + 2) * (fracT d : Int) ≤ (2 * bias d + 1) * fracT d := Int.mul_le_mul_of_nonneg_right (by omega) (by omega)
          have h3 : ((T : Int) + 2) * (fracT d : Int) = ((T * fracT d : Nat) : Int) + 2 * fracT d := by rw [Int.add_mul, Int.natCast_mul]
          omega
      omega
/-- A float is subnormal, or a nought: by what is behind its sign. -/
def func0B (d : Bool) (a : Nat) : Bool := decide (a % signB d / fracT d = 0)
theorem func0_shape (d m : Bool) (F : Nat) (h : F ≤ infB d) : func0B d (noughtV d m + F) = decide (F / fracT d = 0) := by
  obtain ⟨k, -, hi, h0⟩ := signB_pow d
  unfold func0B
  have e : (noughtV d m + F) % signB d = F := by
    cases m
    · show (0 + F) % signB d = F; rw [Nat.zero_add]; exact Nat.mod_eq_of_lt (by omega)
    · show (signB d + F) % signB d = F; rw [Nat.add_mod_left]; exact Nat.mod_eq_of_lt (by omega)
  rw [e]
/-- Two roundings of what is shifted alike: the product of one with the power of two is the other, and the flags are the same. -/
theorem round_scale (d : Bool) (rm : Int) (M N : Num) (t : Nat) (h1 : 1 ≤ t) (h2 : (t : Int) ≤ 2 * bias d) (he : -100 ≤ (t : Int) - bias d)
    (hM : M.mag ≠ 0 ∧ M.mag < 2 ^ 128 ∧ -10000 ≤ M.exp) (hN : N.mag ≠ 0 ∧ N.mag < 2 ^ 128 ∧ -10000 ≤ N.exp) (hs : Sc ((t : Int) - bias d) M N)
    (f1 : (roundF d rm M).2 = 0 ∨ (roundF d rm M).2 = 1) (f2 : (roundF d rm N).2 = 0 ∨ (roundF d rm N).2 = 1)
    (z1 : func0B d (roundF d rm M).1 = false) (z2 : func0B d (roundF d rm N).1 = false) :
    mulF d rm (readN d (roundF d rm M).1) (readN d (t * fracT d)) = ((roundF d rm N).1, 0) ∧ (roundF d rm M).2 = (roundF d rm N).2 := by
  obtain ⟨lf, lT, l2, l3, l4, l5, l6, l7⟩ := lay_facts d
  have hT : 0 < fracT d := by cases d <;> decide
  obtain ⟨F, hF, hFI⟩ := roundF_shape d rm M hM.1 hM.2.1
  obtain ⟨G, hG, hGI⟩ := roundF_shape d rm N hN.1 hN.2.1
  obtain ⟨-, -, s3, s4, s5⟩ := hs
  rw [s3] at hG
  obtain ⟨-, r1, r2⟩ := raised_mag hM.1 (by decide : 127 ≤ 127) (blen_le _ _ hM.2.1)
  rw [hF, func0_shape d _ F hFI] at z1
  rw [hG, func0_shape d _ G hGI] at z2
  have z1' := of_decide_eq_false z1
  have z2' := of_decide_eq_false z2
  have hFT : fracT d ≤ F := by
    apply Nat.le_of_not_lt; intro hlt; exact z1' (Nat.div_eq_of_lt hlt)
  have hGT : fracT d ≤ G := by
    apply Nat.le_of_not_lt; intro hlt; exact z2' (Nat.div_eq_of_lt hlt)
  have p1 : roundX d rm M.minus (raisedN M 127).exp (raisedN M 127).mag = (noughtV d M.minus + F, (roundF d rm M).2) := by
    rw [← hF]; rfl
  have p2 : roundX d rm M.minus ((raisedN M 127).exp + ((t : Int) - bias d)) (raisedN M 127).mag = (noughtV d M.minus + G, (roundF d rm N).2) := by
    rw [← hG, ← s3, ← s4, ← s5]; rfl
  obtain ⟨u1, u2, u3⟩ := round_plain d rm M.minus _ _ F _ r1 r2 p1 f1 hFT
  obtain ⟨v1, v2, v3⟩ := round_plain d rm M.minus _ _ G _ r1 r2 p2 f2 hGT
  refine ⟨?_, by rw [u2, v2]⟩
  have hGF : (G : Int) = F + ((t : Int) - bias d) * fracT d := by
    rw [u1, v1]
    generalize (raisedN M 127).exp = x
    generalize ((cutK rm M.minus (raisedN M 127).mag (127 - fracB d) : Nat) : Int) = c
    have e : (x + ((t : Int) - bias d) + 126 + bias d) = (x + 126 + bias d) + ((t : Int) - bias d) := by omega
    rw [e, Int.add_mul]; omega
  have rF := read_shape d M.minus F u3
  have rG := read_shape d M.minus G v3
  rw [if_pos z1'] at rF
  rw [if_pos z2'] at rG
  have fd := Nat.div_add_mod F (fracT d)
  have gd := Nat.div_add_mod G (fracT d)
  have fm := Nat.mod_lt F hT
  have gm := Nat.mod_lt G hT
  obtain ⟨a, ha⟩ : ∃ a, a = F / fracT d := ⟨_, rfl⟩
  obtain ⟨b, hb⟩ : ∃ b, b = G / fracT d := ⟨_, rfl⟩
  rw [← ha] at fd rF z1'
  rw [← hb] at gd rG z2'
  have hab : (b : Int) = a + ((t : Int) - bias d) ∧ G % fracT d = F % fracT d := by
    have e1 : (F : Int) = (a : Int) * fracT d + (F % fracT d : Nat) := by rw [← Int.natCast_mul, Nat.mul_comm]; omega
    have e2 : (G : Int) = (b : Int) * fracT d + (G % fracT d : Nat) := by rw [← Int.natCast_mul, Nat.mul_comm]; omega
    rw [e1, e2] at hGF
    have e3 : ((b : Int) - (a + ((t : Int) - bias d))) * fracT d = (F % fracT d : Nat) - (G % fracT d : Nat) := by
      rw [Int.sub_mul, Int.add_mul]; omega
    generalize (b : Int) - (a + ((t : Int) - bias d)) = y at e3
    have hy : y = 0 := by
      apply Decidable.byContradiction; intro hne
      rcases Int.lt_or_gt_of_ne hne with hlt | hgt
      · have h3 : y * (fracT d : Int) ≤ (-1) * fracT d := Int.mul_le_mul_of_nonneg_right (by omega) (by omega)
        omega
      · have h3 : 1 * (fracT d : Int) ≤ y * fracT d := Int.mul_le_mul_of_nonneg_right (by omega) (by omega)
        omega
    refine ⟨?_, ?_⟩
    · have : (b : Int) - (a + ((t : Int) - bias d)) = 0 ∨ True := .inr trivial
      have e4 : ((b : Int) - (a + ((t : Int) - bias d))) * fracT d = (F % fracT d : Nat) - (G % fracT d : Nat) := by
        rw [Int.sub_mul, Int.add_mul]; omega
      apply Decidable.byContradiction; intro hne
      have hne' : (b : Int) - (a + ((t : Int) - bias d)) ≠ 0 := by omega
      rcases Int.lt_or_gt_of_ne hne' with hlt | hgt
      · have h3 : ((b : Int) - (a + ((t : Int) - bias d))) * (fracT d : Int) ≤ (-1) * fracT d := Int.mul_le_mul_of_nonneg_right (by omega) (by omega)
        omega
      · have h3 : 1 * (fracT d : Int) ≤ ((b : Int) - (a + ((t : Int) - bias d))) * fracT d := Int.mul_le_mul_of_nonneg_right (by omega) (by omega)
        omega
    · rw [hy, Int.zero_mul] at e3; omega
  rw [hF, hG, rF, read_two d t h1 h2]
  have fV : FinF ⟨1, M.minus, (a : Int) - bias d - fb d, F % fracT d + fracT d⟩ := by
    rw [← rF]
    rcases read_fin d M.minus F u3 with ⟨h3, -⟩ | ⟨-, -, -, h3⟩
    · omega
    · exact h3
  have fT : FinF ⟨1, false, (t : Int) - bias d - fb d, fracT d⟩ := by
    have e : t * fracT d = noughtV d false + t * fracT d := by show _ = 0 + _; omega
    have hI : t * fracT d < infB d := by
      have h3 : ((t * fracT d : Nat) : Int) < (infB d : Int) := by
        rw [l7, Int.natCast_mul]
        have h4 : (t : Int) * (fracT d : Int) ≤ (2 * bias d) * (fracT d : Int) := Int.mul_le_mul_of_nonneg_right h2 (by omega)
        rw [Int.add_mul]; omega
      omega
    rw [← read_two d t h1 h2, e]
    rcases read_fin d false _ hI with ⟨h3, -⟩ | ⟨-, -, -, h3⟩
    · exfalso
      have : 1 * fracT d ≤ t * fracT d := Nat.mul_le_mul_right _ h1
      omega
    · exact h3
  obtain ⟨q0, q1, q2, q3⟩ := mulF_fin d rm _ _ fV fT
  rw [q0]
  have fG : Flt d (noughtV d M.minus + G) ⟨1, M.minus, (b : Int) - bias d - fb d, G % fracT d + fracT d⟩ := ⟨G, rfl, by omega, v3, rG⟩
  refine round_val d rm _ _ _ q1 q2 q3 fG (finF_ok (flt_fin fG rfl)) ?_ ?_
  · show (F % fracT d + fracT d) * fracT d * 2 ^ ((a : Int) - bias d - fb d + ((t : Int) - bias d - fb d) + 20000).toNat = (G % fracT d + fracT d) * 2 ^ ((b : Int) - bias d - fb d + 20000).toNat
    rw [hab.2]
    have b1 := fV.2.2.2
    have b2 := fT.2.2.2
    have e := pow_join (F % fracT d + fracT d) (fb d) ((a : Int) - bias d - fb d + ((t : Int) - bias d - fb d)) ((b : Int) - bias d - fb d) (by omega) (by
      have c1 : -1074 ≤ (a : Int) - bias d - fb d := b1.1
      have c2 : -1074 ≤ (t : Int) - bias d - fb d := b2.1
      omega)
    rw [← lT] at e; exact e
  · show (M.minus != false) = M.minus; cases M.minus <;> rfl
end Go.Proofs.Ytnmkahdgfakpiaa
