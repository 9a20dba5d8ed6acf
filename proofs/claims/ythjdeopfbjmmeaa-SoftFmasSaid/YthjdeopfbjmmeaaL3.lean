/- The code's sums, and the exact ones: one float. -/
import Derived.Test.YthjdeopfbjmmeaaL2
import Derived.Test.YthjdeopfbjmmeaaG8
namespace Go.Proofs.Ythjdeopfbjmmeaa
set_option linter.unusedVariables false
set_option linter.unusedSimpArgs false
theorem stk_exact {X n : Nat} (h : X % 2 ^ n = 0) : stk X n * 2 ^ n = X := by
  unfold stk; rw [if_pos h]
  have := Nat.div_add_mod X (2 ^ n); rw [h, Nat.add_zero, Nat.mul_comm] at this; exact this
theorem stk_ne {X n : Nat} (h : X ≠ 0) : stk X n ≠ 0 := by
  intro e
  by_cases hd : X % 2 ^ n = 0
  · have := stk_exact hd; rw [e, Nat.zero_mul] at this; exact h this.symm
  · unfold stk at e; rw [if_neg hd] at e; omega
theorem rnd_any (d : Bool) (rm : Int) (m : Bool) (X n : Nat) (e : Int) (h0 : X ≠ 0) (h : X % 2 ^ n ≠ 0 → n + fb d + 3 ≤ blen X) : rnd d rm m (stk X n) (e + n) = rnd d rm m X e := by
  by_cases hd : X % 2 ^ n = 0
  · rw [← rnd_scale d rm m _ _ _ (stk_ne h0), stk_exact hd]
  · exact rnd_stk d rm m X n e (h hd)
theorem rsticky_stk (x n : Nat) (h : x < 2 ^ 128) : rsticky x n = stk x n := by
  unfold rsticky stk shl
  have hd := Nat.div_add_mod x (2 ^ n)
  rw [Nat.mul_comm] at hd
  have hle : x / 2 ^ n * 2 ^ n ≤ x := Nat.div_mul_le_self x (2 ^ n)
  rw [Nat.mod_eq_of_lt (by omega)]
  by_cases hz : x % 2 ^ n = 0
  · rw [if_pos hz, if_pos (by omega)]
  · rw [if_neg hz, if_neg (by omega)]
theorem stk_add (A b n : Nat) (h : A % 2 = 0) : A + stk b n = stk (A * 2 ^ n + b) n := by
  unfold stk
  rw [Nat.mul_add_mod', Nat.add_comm (A * 2 ^ n), Nat.add_mul_div_right _ _ (Nat.two_pow_pos n)]
  split <;> omega
theorem stk_sub (A b n : Nat) (h : A % 2 = 0) (hb : b ≤ A * 2 ^ n) : A - stk b n = stk (A * 2 ^ n - b) n := by
  have hp := Nat.two_pow_pos n
  have hd := Nat.div_add_mod b (2 ^ n)
  have hr := Nat.mod_lt b hp
  unfold stk
  generalize b / 2 ^ n = q at *
  generalize b % 2 ^ n = r at *
  generalize 2 ^ n = t at *
  by_cases hz : r = 0
  · rw [if_pos hz]
    have e1 : A * t - b = (A - q) * t := by rw [Nat.sub_mul, ← hd, hz, Nat.mul_comm q]; omega
    rw [e1, Nat.mul_mod_left, if_pos rfl, Nat.mul_div_cancel _ hp]
  · rw [if_neg hz]
    have hq : q < A := by
      apply Classical.byContradiction
      intro hc
      have : t * A ≤ t * q := Nat.mul_le_mul_left t (by omega)
      rw [Nat.mul_comm t A] at this; omega
    obtain ⟨k, rfl⟩ : ∃ k, A = q + 1 + k := ⟨A - q - 1, by omega⟩
    have e0 : (q + 1 + k) * t = t * q + t + k * t := by rw [Nat.add_mul, Nat.add_mul, Nat.one_mul, Nat.mul_comm q]
    have e1 : (q + 1 + k) * t - b = k * t + (t - r) := by rw [e0]; omega
    have e2 : (k * t + (t - r)) / t = k := by rw [Nat.add_comm, Nat.add_mul_div_right _ _ hp, Nat.div_eq_of_lt (by omega), Nat.zero_add]
    rw [e1, e2, Nat.mul_add_mod', Nat.mod_eq_of_lt (by omega), if_neg (by omega)]
    omega
/-- A number as the code adds it: 127 bits, the lowest 20 of them 0. -/
def Rq (a : Num) : Prop := 2 ^ 126 ≤ a.mag ∧ a.mag < 2 ^ 127 ∧ a.mag % 2 ^ 20 = 0 ∧ a.cls = 1
theorem addN_rnd (d : Bool) (rm : Int) (a b : Num) (ha : Rq a) (hb : Rq b) (ho : b.exp ≤ a.exp) (hm : a.exp = b.exp → b.mag ≤ a.mag) (S : Nat)
    (hS : S = if a.minus = b.minus then a.mag * 2 ^ (a.exp - b.exp).toNat + b.mag else a.mag * 2 ^ (a.exp - b.exp).toNat - b.mag) :
    (S = 0 → (addN a b).cls = 0) ∧ (S ≠ 0 → (addN a b).cls = 1 ∧ (addN a b).minus = a.minus ∧ (addN a b).mag ≠ 0 ∧ (addN a b).mag < 2 ^ 128 ∧ rnd d rm a.minus (addN a b).mag (addN a b).exp = rnd d rm a.minus S b.exp) := by
  obtain ⟨a1, a2, a3, a4⟩ := ha
  obtain ⟨b1, b2, b3, b4⟩ := hb
  obtain ⟨n, hn⟩ : ∃ n, n = (a.exp - b.exp).toNat := ⟨_, rfl⟩
  have hexp : a.exp = b.exp + n := by omega
  have hpn := Nat.two_pow_pos n
  have hle : b.mag ≤ a.mag * 2 ^ n := by
    by_cases h0 : n = 0
    · rw [h0, Nat.pow_zero, Nat.mul_one]; exact hm (by omega)
    · have : 2 ≤ 2 ^ n := by
        obtain ⟨k, rfl⟩ : ∃ k, n = k + 1 := ⟨n - 1, by omega⟩
        rw [Nat.pow_succ]; have := Nat.two_pow_pos k; omega
      have := Nat.mul_le_mul_left a.mag this
      omega
  have hs := rsticky_stk b.mag n (by omega)
  have hlow : ∀ S' : Nat, (S' = a.mag * 2 ^ n + b.mag ∨ S' + b.mag = a.mag * 2 ^ n) → S' % 2 ^ n ≠ 0 → n + fb d + 3 ≤ blen S' := fun S' h1 h2 => by
    have hn20 : 20 < n := by
      apply Classical.byContradiction
      intro hc
      apply h2
      have : b.mag % 2 ^ n = 0 := by
        rw [← Nat.mod_mod_of_dvd b.mag (Nat.pow_dvd_pow 2 (show n ≤ 20 by omega)), b3, Nat.zero_mod]
      rcases h1 with rfl | h1
      · rw [Nat.mul_add_mod', this]
      · have e1 : (S' + b.mag) % 2 ^ n = 0 := by rw [h1]; exact Nat.mul_mod_left _ _
        rw [Nat.add_mod, this, Nat.add_zero, Nat.mod_mod] at e1; exact e1
    have hfb : fb d ≤ 52 := by cases d <;> decide
    have hbig : 2 ^ (125 + n) ≤ S' := by
      have e1 : 2 ^ (126 + n) ≤ a.mag * 2 ^ n := by rw [Nat.pow_add]; exact Nat.mul_le_mul_right _ a1
      have e2 : 2 ^ (126 + n) = 2 ^ (125 + n) + 2 ^ (125 + n) := by rw [show 126 + n = 125 + n + 1 by omega, Nat.pow_succ]; omega
      have e3 : 2 ^ 127 ≤ 2 ^ (125 + n) := Nat.pow_le_pow_right (by decide) (by omega)
      omega
    have h0 : S' ≠ 0 := by have := Nat.two_pow_pos (125 + n); omega
    obtain ⟨c1, c2, c3⟩ := blen_bounds S' h0
    have : 125 + n < blen S' := by
      apply Classical.byContradiction
      intro hc
      have := Nat.pow_le_pow_right (show 0 < 2 by decide) (show blen S' ≤ 125 + n by omega)
      omega
    omega
  have hev : a.mag % 2 = 0 := by
    have : a.mag % 2 ^ 20 % 2 = a.mag % 2 := Nat.mod_mod_of_dvd _ (by decide)
    rw [a3] at this; exact this.symm
  rw [← hn] at hS
  unfold addN
  simp only
  rw [← hn, hs]
  by_cases hsg : a.minus = b.minus
  · rw [if_pos hsg] at hS ⊢
    have hS0 : S ≠ 0 := by omega
    refine ⟨fun h => absurd h hS0, fun _ => ⟨a4, rfl, by show a.mag + _ ≠ 0; omega, ?_, ?_⟩⟩
    · show a.mag + stk b.mag n < 2 ^ 128
      have : stk b.mag n ≤ b.mag + 1 := by
        unfold stk; have := Nat.div_le_self b.mag (2 ^ n); split <;> omega
      omega
    · show rnd d rm a.minus (a.mag + stk b.mag n) a.exp = _
      rw [stk_add _ _ _ hev, ← hS, hexp]
      exact rnd_any d rm a.minus S n b.exp hS0 (hlow S (.inl hS))
  · rw [if_neg hsg] at hS ⊢
    have hsub := stk_sub a.mag b.mag n hev hle
    rw [← hS] at hsub
    by_cases h0 : S = 0
    · refine ⟨fun _ => ?_, fun h => absurd h0 h⟩
      have e1 : b.mag = a.mag * 2 ^ n := by omega
      have e2 : stk b.mag n = a.mag := by
        unfold stk; rw [e1, Nat.mul_mod_left, if_pos rfl, Nat.mul_div_cancel _ hpn]
      rw [if_pos e2.symm]
    · refine ⟨fun h => absurd h h0, fun _ => ?_⟩
      have e1 := stk_ne (n := n) h0
      rw [if_neg (by omega)]
      refine ⟨a4, rfl, by show a.mag - _ ≠ 0; omega, by show a.mag - _ < _; omega, ?_⟩
      show rnd d rm a.minus (a.mag - stk b.mag n) a.exp = _
      rw [hsub, hexp]
      exact rnd_any d rm a.minus S n b.exp h0 (hlow S (.inr (by omega)))
/-- A number that is finite: with at most 107 bits, or a nought. -/
def FinQ (M : Num) : Prop := M.cls = 1 ∧ M.mag ≠ 0 ∧ blen M.mag ≤ 107 ∨ M.cls = 0 ∧ M.mag = 0
def sumE (x y : Int) : Int := min x y
def sumA (M : Num) (y : Int) : Nat := M.mag * 2 ^ (M.exp - sumE M.exp y).toNat
def sumB (x : Int) (N : Num) : Nat := N.mag * 2 ^ (N.exp - sumE x N.exp).toNat
def sumM (M N : Num) : Nat := if M.minus = N.minus then sumA M N.exp + sumB M.exp N else if sumA M N.exp < sumB M.exp N then sumB M.exp N - sumA M N.exp else sumA M N.exp - sumB M.exp N
def sumS (M N : Num) : Bool := if M.minus = N.minus then M.minus else if sumA M N.exp < sumB M.exp N then N.minus else M.minus
theorem rq_of {M : Num} (h1 : M.cls = 1) (h2 : M.mag ≠ 0) (h3 : blen M.mag ≤ 107) : Rq (raisedN M 126) := by
  obtain ⟨r0, r1, r2⟩ := raised_mag h2 (by decide : 126 ≤ 127) (by omega)
  refine ⟨r1, r2, ?_, h1⟩
  rw [r0, show 126 + 1 - blen M.mag = (107 - blen M.mag) + 20 by omega, Nat.pow_add, ← Nat.mul_assoc]
  exact Nat.mul_mod_left _ _
theorem pow_split (A : Nat) (a b c : Int) (h1 : c ≤ b) (h2 : b ≤ a) : A * 2 ^ (a - b).toNat * 2 ^ (b - c).toNat = A * 2 ^ (a - c).toNat := by
  rw [Nat.mul_assoc, ← Nat.pow_add]; congr 2; omega
theorem raise_place (M : Num) (y : Int) (h2 : M.mag ≠ 0) (h3 : blen M.mag ≤ 107) (hy : y ≤ (raisedN M 126).exp) : (raisedN M 126).mag * 2 ^ ((raisedN M 126).exp - y).toNat = M.mag * 2 ^ (M.exp - y).toNat ∧ (raisedN M 126).exp ≤ M.exp := by
  obtain ⟨r0, r1, r2⟩ := raised_mag h2 (by decide : 126 ≤ 127) (by omega)
  have he : (raisedN M 126).exp = M.exp - (127 - (blen M.mag : Int)) := by show M.exp - (((126 : Nat) : Int) + 1 - _) = _; omega
  rw [r0, he]
  rw [he] at hy
  refine ⟨?_, by omega⟩
  rw [Nat.mul_assoc, ← Nat.pow_add]; congr 2; omega
theorem total_rnd (d : Bool) (rm : Int) (M N : Num) (hM : FinQ M) (hN : FinQ N) :
    (sumM M N = 0 → (totalN M N).cls = 0) ∧ (sumM M N ≠ 0 → (totalN M N).cls = 1 ∧ roundF d rm (totalN M N) = rnd d rm (sumS M N) (sumM M N) (sumE M.exp N.exp)) := by
  rcases hM with ⟨c1, z1, l1⟩ | ⟨c1, z1⟩
  · rcases hN with ⟨c2, z2, l2⟩ | ⟨c2, z2⟩
    · rw [totalN_one (by omega) (by omega)]
      have R1 := rq_of c1 z1 l1
      have R2 := rq_of c2 z2 l2
      by_cases hsw : swapB (raisedN M 126) (raisedN N 126) = true
      · rw [if_pos hsw]
        have hs := of_decide_eq_true hsw
        obtain ⟨p1, p2⟩ := raise_place N (raisedN M 126).exp z2 l2 (by omega)
        obtain ⟨-, p3⟩ := raise_place M (raisedN M 126).exp z1 l1 (by omega)
        obtain ⟨p4, -⟩ := raise_place M (raisedN M 126).exp z1 l1 (Int.le_refl _)
        rw [Int.sub_self, Int.toNat_zero, Nat.pow_zero, Nat.mul_one] at p4
        obtain ⟨k, hk⟩ : ∃ k : Nat, (k : Int) = sumE M.exp N.exp - (raisedN M 126).exp := ⟨(sumE M.exp N.exp - (raisedN M 126).exp).toNat, by unfold sumE; omega⟩
        have hk' : (sumE M.exp N.exp - (raisedN M 126).exp).toNat = k := by omega
        have qa : sumA M N.exp * 2 ^ k = (raisedN M 126).mag := by rw [p4, ← hk']; exact pow_split _ _ _ _ (by unfold sumE; omega) (by unfold sumE; omega)
        have qb : sumB M.exp N * 2 ^ k = (raisedN N 126).mag * 2 ^ ((raisedN N 126).exp - (raisedN M 126).exp).toNat := by rw [p1, ← hk']; exact pow_split _ _ _ _ (by unfold sumE; omega) (by unfold sumE; omega)
        have hlt : sumA M N.exp < sumB M.exp N := by
          apply (Nat.mul_lt_mul_right (Nat.two_pow_pos k)).1
          rw [qa, qb]
          rcases hs with h | ⟨h, h'⟩
          · obtain ⟨j, hj⟩ : ∃ j, ((raisedN N 126).exp - (raisedN M 126).exp).toNat = j + 1 := ⟨((raisedN N 126).exp - (raisedN M 126).exp).toNat - 1, by omega⟩
            have : 2 ^ 126 * 2 ≤ (raisedN N 126).mag * 2 ^ (j + 1) := Nat.mul_le_mul R2.1 (by rw [Nat.pow_succ]; have := Nat.two_pow_pos j; omega)
            rw [hj]; have := R1.2.1; omega
          · rw [h, Int.sub_self, Int.toNat_zero, Nat.pow_zero, Nat.mul_one]; exact h'
        have key := addN_rnd d rm (raisedN N 126) (raisedN M 126) R2 R1 (by omega) (by omega) (sumM M N * 2 ^ k) (by
          show _ = if N.minus = M.minus then _ else _
          rw [← qa, ← qb]
          unfold sumM
          by_cases hsg : M.minus = N.minus
          · rw [if_pos hsg, if_pos hsg.symm, Nat.add_mul, Nat.add_comm]
          · rw [if_neg hsg, if_pos hlt, if_neg (fun e => hsg e.symm), Nat.sub_mul])
        have hz : sumM M N * 2 ^ k = 0 ↔ sumM M N = 0 := by rw [Nat.mul_eq_zero]; have := Nat.two_pow_pos k; omega
        refine ⟨fun h => key.1 (hz.2 h), fun h => ?_⟩
        obtain ⟨k1, k2, k3, k4, k5⟩ := key.2 (fun e => h (hz.1 e))
        refine ⟨k1, ?_⟩
        rw [roundF_rnd d rm _ k3 k4, k2, k5, rnd_scale d rm _ _ _ _ h]
        have : sumS M N = N.minus := by
          unfold sumS
          by_cases hsg : M.minus = N.minus
          · rw [if_pos hsg, hsg]
          · rw [if_neg hsg, if_pos hlt]
        rw [this, show (raisedN M 126).exp + (k : Int) = sumE M.exp N.exp by omega]; rfl
      · rw [if_neg hsw]
        have hs := of_decide_eq_false (Bool.eq_false_iff.2 hsw)
        obtain ⟨p1, p2⟩ := raise_place M (raisedN N 126).exp z1 l1 (by omega)
        obtain ⟨p4, p3⟩ := raise_place N (raisedN N 126).exp z2 l2 (Int.le_refl _)
        rw [Int.sub_self, Int.toNat_zero, Nat.pow_zero, Nat.mul_one] at p4
        obtain ⟨k, hk⟩ : ∃ k : Nat, (k : Int) = sumE M.exp N.exp - (raisedN N 126).exp := ⟨(sumE M.exp N.exp - (raisedN N 126).exp).toNat, by unfold sumE; omega⟩
        have hk' : (sumE M.exp N.exp - (raisedN N 126).exp).toNat = k := by omega
        have qb : sumB M.exp N * 2 ^ k = (raisedN N 126).mag := by rw [p4, ← hk']; exact pow_split _ _ _ _ (by unfold sumE; omega) (by unfold sumE; omega)
        have qa : sumA M N.exp * 2 ^ k = (raisedN M 126).mag * 2 ^ ((raisedN M 126).exp - (raisedN N 126).exp).toNat := by rw [p1, ← hk']; exact pow_split _ _ _ _ (by unfold sumE; omega) (by unfold sumE; omega)
        have hlt : ¬ sumA M N.exp < sumB M.exp N := by
          intro hc
          have := (Nat.mul_lt_mul_right (Nat.two_pow_pos k)).2 hc
          rw [qa, qb] at this
          by_cases h : (raisedN M 126).exp = (raisedN N 126).exp
          · rw [h, Int.sub_self, Int.toNat_zero, Nat.pow_zero, Nat.mul_one] at this; omega
          · obtain ⟨j, hj⟩ : ∃ j, ((raisedN M 126).exp - (raisedN N 126).exp).toNat = j + 1 := ⟨((raisedN M 126).exp - (raisedN N 126).exp).toNat - 1, by omega⟩
            rw [hj] at this
            have : 2 ^ 126 * 2 ≤ (raisedN M 126).mag * 2 ^ (j + 1) := Nat.mul_le_mul R1.1 (by rw [Nat.pow_succ]; have := Nat.two_pow_pos j; omega)
            have := R2.2.1
            omega
        have key := addN_rnd d rm (raisedN M 126) (raisedN N 126) R1 R2 (by omega) (by omega) (sumM M N * 2 ^ k) (by
          show _ = if M.minus = N.minus then _ else _
          rw [← qa, ← qb]
          unfold sumM
          by_cases hsg : M.minus = N.minus
          · rw [if_pos hsg, if_pos hsg, Nat.add_mul]
          · rw [if_neg hsg, if_neg hsg, if_neg hlt, Nat.sub_mul])
        have hz : sumM M N * 2 ^ k = 0 ↔ sumM M N = 0 := by rw [Nat.mul_eq_zero]; have := Nat.two_pow_pos k; omega
        refine ⟨fun h => key.1 (hz.2 h), fun h => ?_⟩
        obtain ⟨k1, k2, k3, k4, k5⟩ := key.2 (fun e => h (hz.1 e))
        refine ⟨k1, ?_⟩
        rw [roundF_rnd d rm _ k3 k4, k2, k5, rnd_scale d rm _ _ _ _ h]
        have : sumS M N = M.minus := by
          unfold sumS
          by_cases hsg : M.minus = N.minus
          · rw [if_pos hsg]
          · rw [if_neg hsg, if_neg hlt]
        rw [this, show (raisedN N 126).exp + (k : Int) = sumE M.exp N.exp by omega]; rfl
    · have hT : totalN M N = M := by unfold totalN; rw [if_neg (by omega), if_pos c2]
      have hB : sumB M.exp N = 0 := by unfold sumB; rw [z2, Nat.zero_mul]
      have hSM : sumM M N = sumA M N.exp := by unfold sumM; rw [hB]; simp
      have hSS : sumS M N = M.minus := by unfold sumS; rw [hB]; simp
      have hA : sumA M N.exp ≠ 0 := by unfold sumA; rw [Nat.mul_ne_zero_iff]; exact ⟨z1, by have := Nat.two_pow_pos (M.exp - sumE M.exp N.exp).toNat; omega⟩
      rw [hT, hSM, hSS]
      refine ⟨fun h => absurd h hA, fun _ => ⟨c1, ?_⟩⟩
      rw [roundF_rnd d rm M z1 (by obtain ⟨-, -, c⟩ := blen_bounds M.mag z1; exact Nat.lt_of_lt_of_le c (Nat.pow_le_pow_right (by decide) (by omega)))]
      unfold sumA
      rw [rnd_scale d rm _ _ _ _ z1]
      congr 1; unfold sumE; omega
  · have hT : totalN M N = N := by unfold totalN; rw [if_pos c1]
    have hA : sumA M N.exp = 0 := by unfold sumA; rw [z1, Nat.zero_mul]
    have hSM : sumM M N = sumB M.exp N := by
      unfold sumM; rw [hA]
      by_cases hb : sumB M.exp N = 0
      · rw [hb]; simp
      · simp [show 0 < sumB M.exp N by omega]
    rw [hT, hSM]
    rcases hN with ⟨c2, z2, l2⟩ | ⟨c2, z2⟩
    · have hB : sumB M.exp N ≠ 0 := by unfold sumB; rw [Nat.mul_ne_zero_iff]; exact ⟨z2, by have := Nat.two_pow_pos (N.exp - sumE M.exp N.exp).toNat; omega⟩
      have hSS : sumS M N = N.minus := by
        unfold sumS; rw [hA]
        by_cases hsg : M.minus = N.minus
        · rw [if_pos hsg, hsg]
        · rw [if_neg hsg, if_pos (by omega)]
      rw [hSS]
      refine ⟨fun h => absurd h hB, fun _ => ⟨c2, ?_⟩⟩
      rw [roundF_rnd d rm N z2 (by obtain ⟨-, -, c⟩ := blen_bounds N.mag z2; exact Nat.lt_of_lt_of_le c (Nat.pow_le_pow_right (by decide) (by omega)))]
      unfold sumB
      rw [rnd_scale d rm _ _ _ _ z2]
      congr 1; unfold sumE; omega
    · refine ⟨fun _ => c2, fun h => ?_⟩
      exfalso; apply h; unfold sumB; rw [z2, Nat.zero_mul]
/-- The document's sum, as it is written. -/
def sumR (d : Bool) (rm : Int) (M N : Num) : Nat × Int :=
  if sumM M N = 0 then (if M.minus = N.minus ∧ sumA M N.exp = 0 then noughtV d M.minus else noughtV d (decide (rm = 2)), 0)
  else rnd d rm (sumS M N) (sumM M N) (sumE M.exp N.exp)
theorem sumF_sumR (d : Bool) (rm : Int) (M N : Num) (hM : FinQ M) (hN : FinQ N) : sumF d rm M N = sumR d rm M N := by
  have hk : M.cls ≤ 1 ∧ N.cls ≤ 1 := by rcases hM with h | h <;> rcases hN with h' | h' <;> omega
  have key := total_rnd d rm M N hM hN
  unfold sumF sumR
  have h1 : someV M.cls N.cls = false := by unfold someV; rw [decide_eq_false_iff_not]; omega
  rw [h1]
  simp only [Bool.false_eq_true, if_false]
  rw [if_neg (by omega), if_neg (by omega), if_neg (by omega)]
  have hA : M.cls = 0 → sumA M N.exp = 0 := fun h => by
    rcases hM with h' | h'
    · omega
    · unfold sumA; rw [h'.2, Nat.zero_mul]
  have hA1 : M.cls = 1 → sumA M N.exp ≠ 0 := fun h => by
    rcases hM with h' | h'
    · unfold sumA; rw [Nat.mul_ne_zero_iff]; exact ⟨h'.2.1, by have := Nat.two_pow_pos (M.exp - sumE M.exp N.exp).toNat; omega⟩
    · omega
  have hB : N.cls = 0 → sumB M.exp N = 0 := fun h => by
    rcases hN with h' | h'
    · omega
    · unfold sumB; rw [h'.2, Nat.zero_mul]
  have hB1 : N.cls = 1 → sumB M.exp N ≠ 0 := fun h => by
    rcases hN with h' | h'
    · unfold sumB; rw [Nat.mul_ne_zero_iff]; exact ⟨h'.2.1, by have := Nat.two_pow_pos (N.exp - sumE M.exp N.exp).toNat; omega⟩
    · omega
  by_cases hz : M.cls = 0 ∧ N.cls = 0 ∧ M.minus = N.minus
  · rw [if_pos hz]
    have e0 : sumM M N = 0 := by unfold sumM; rw [hA hz.1, hB hz.2.1]; simp
    rw [if_pos e0, if_pos ⟨hz.2.2, hA hz.1⟩]
  · rw [if_neg hz]
    by_cases hs : sumM M N = 0
    · rw [if_pos hs, if_pos (key.1 hs), if_neg]
      rintro ⟨e1, e2⟩
      apply hz
      have c1 : M.cls = 0 := by
        apply Classical.byContradiction; intro hc; exact hA1 (by omega) e2
      refine ⟨c1, ?_, e1⟩
      apply Classical.byContradiction; intro hc
      have := hB1 (by omega)
      unfold sumM at hs; rw [if_pos e1] at hs; omega
    · obtain ⟨k1, k2⟩ := key.2 hs
      rw [if_neg hs, if_neg (by omega)]
      unfold writeF
      rw [if_neg (by omega), if_neg (by omega)]
      exact k2
end Go.Proofs.Ythjdeopfbjmmeaa
