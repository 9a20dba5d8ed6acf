/- The mathematics of PlicRanks: what waits is claimed by rank. -/
import Derived.Test.YtfdhhmgenbopbaaB3
import Derived.Test.YtfdhhmgenbopbaaB5
namespace Go.Proofs.Ytfdhhmgenbopbaa
set_option linter.unusedVariables false
set_option linter.unusedSimpArgs false
/-- How many of the first so many numbers. -/
def cntN (f : Nat → Bool) : Nat → Nat
  | 0 => 0
  | n + 1 => cntN f n + (bif f n then 1 else 0)
theorem cntN_congr {f g : Nat → Bool} : ∀ n, (∀ k, k < n → f k = g k) → cntN f n = cntN g n
  | 0, _ => rfl
  | n + 1, h => by
    show cntN f n + _ = cntN g n + _
    rw [cntN_congr n (fun k hk => h k (by omega)), h n (by omega)]
theorem cntN_del {f g : Nat → Bool} {i : Nat} (hf : f i = true) (hg : g i = false) (ho : ∀ k, k ≠ i → g k = f k) : ∀ n, cntN f n = cntN g n + (if i < n then 1 else 0)
  | 0 => by simp [cntN]
  | n + 1 => by
    show cntN f n + _ = cntN g n + _ + _
    rw [cntN_del hf hg ho n]
    by_cases e : n = i
    · subst e
      rw [hf, hg, if_neg (Nat.lt_irrefl _), if_pos (Nat.lt_succ_self _)]
      show _ + 1 = _ + 0 + 1
      omega
    · rw [ho n e]
      by_cases c : i < n
      · rw [if_pos c, if_pos (by omega)]; omega
      · rw [if_neg c, if_neg (by omega)]; omega
theorem cntN_zero {f : Nat → Bool} : ∀ n, cntN f n = 0 → ∀ k, k < n → f k = false
  | 0, _, k, hk => by omega
  | n + 1, h, k, hk => by
    have h' : cntN f n + (bif f n then 1 else 0) = 0 := h
    cases hf : f n
    · rw [hf] at h'
      by_cases e : k = n
      · rw [e]; exact hf
      · exact cntN_zero n (by simpa using h') k (by omega)
    · rw [hf] at h'; simp at h'
theorem cntN_pos {f : Nat → Bool} : ∀ n, 0 < cntN f n → ∃ k, k < n ∧ f k = true
  | 0, h => by cases h
  | n + 1, h => by
    have h' : 0 < cntN f n + (bif f n then 1 else 0) := h
    cases hf : f n
    · rw [hf] at h'
      obtain ⟨k, h1, h2⟩ := cntN_pos n (by simpa using h')
      exact ⟨k, by omega, h2⟩
    · exact ⟨n, by omega, hf⟩
theorem cntN_le (f : Nat → Bool) : ∀ n, cntN f n ≤ n
  | 0 => Nat.le_refl _
  | n + 1 => by
    have := cntN_le f n
    show cntN f n + (bif f n then 1 else 0) ≤ n + 1
    cases f n <;> simp <;> omega
def stepG (S : St) (x : Bool) (r n : Nat) : St := bif x then comeF ((S.setPr n r).setUp n true) n else S.setPr n r
/-- The plic before the source n is set up. -/
def G (B : St) (ln : Nat → Bool) (rk : Nat → Nat) : Nat → St
  | 0 => B
  | n + 1 => bif n == 0 then B else stepG (G B ln rk n) (ln n) (rk n) n
theorem G_one (B : St) (ln : Nat → Bool) (rk : Nat → Nat) : G B ln rk 1 = B := rfl
theorem G_succ (B : St) (ln : Nat → Bool) (rk : Nat → Nat) (n : Nat) (h : 1 ≤ n) : G B ln rk (n + 1) = stepG (G B ln rk n) (ln n) (rk n) n := by
  have : (n == 0) = false := by simp; omega
  show (bif n == 0 then B else _) = _
  rw [this]; rfl
def Base (B : St) : Prop := (∀ k, B.pr k = 0) ∧ (∀ k, B.st k = 0) ∧ ∀ k, B.up k = false
theorem G_facts (B : St) (hB : Base B) (ln : Nat → Bool) (rk : Nat → Nat) : ∀ n, (∀ k, (G B ln rk n).pr k = if 1 ≤ k ∧ k < n then rk k else 0) ∧ (∀ k, (G B ln rk n).st k = if 1 ≤ k ∧ k < n ∧ ln k = true then 1 else 0) ∧ (G B ln rk n).en = B.en ∧ (G B ln rk n).th = B.th
  | 0 => ⟨fun k => by rw [if_neg (by omega)]; exact hB.1 k, fun k => by rw [if_neg (by omega)]; exact hB.2.1 k, rfl, rfl⟩
  | n + 1 => by
    obtain ⟨h1, h2, h3, h4⟩ := G_facts B hB ln rk n
    by_cases e : n = 0
    · subst e
      exact ⟨fun k => by rw [if_neg (by omega)]; exact hB.1 k, fun k => by rw [if_neg (by omega)]; exact hB.2.1 k, rfl, rfl⟩
    · rw [G_succ B ln rk n (by omega)]
      unfold stepG
      cases hl : ln n
      · refine ⟨fun k => ?_, fun k => ?_, h3, h4⟩
        · show set (G B ln rk n).pr n (rk n) k = _
          by_cases ek : k = n
          · subst ek; rw [set_same, if_pos (by omega)]
          · rw [set_ne _ _ _ _ ek, h1 k]
            by_cases c : 1 ≤ k ∧ k < n
            · rw [if_pos c, if_pos (by omega)]
            · rw [if_neg c, if_neg (by omega)]
        · show (G B ln rk n).st k = _
          rw [h2 k]
          by_cases c : 1 ≤ k ∧ k < n ∧ ln k = true
          · rw [if_pos c, if_pos ⟨c.1, by omega, c.2.2⟩]
          · rw [if_neg c, if_neg (fun q => c ⟨q.1, by
              have : k ≠ n := fun ek => by rw [ek, hl] at q; exact absurd q.2.2 (by decide)
              omega, q.2.2⟩)]
      · have hc : comeF (((G B ln rk n).setPr n (rk n)).setUp n true) n = (((G B ln rk n).setPr n (rk n)).setUp n true).setSt n 1 := by
          unfold comeF
          have e1 : (((G B ln rk n).setPr n (rk n)).setUp n true).up n = true := set_same _ _ _
          have e2 : (((G B ln rk n).setPr n (rk n)).setUp n true).st n = 0 := by
            show (G B ln rk n).st n = 0
            rw [h2 n, if_neg (by omega)]
          rw [e1, e2]; rfl
        show _ ∧ _ ∧ (comeF (((G B ln rk n).setPr n (rk n)).setUp n true) n).en = _ ∧ (comeF (((G B ln rk n).setPr n (rk n)).setUp n true) n).th = _
        rw [hc]
        refine ⟨fun k => ?_, fun k => ?_, h3, h4⟩
        · show set (G B ln rk n).pr n (rk n) k = _
          by_cases ek : k = n
          · subst ek; rw [set_same, if_pos (by omega)]
          · rw [set_ne _ _ _ _ ek, h1 k]
            by_cases c : 1 ≤ k ∧ k < n
            · rw [if_pos c, if_pos (by omega)]
            · rw [if_neg c, if_neg (by omega)]
        · show set (G B ln rk n).st n 1 k = _
          by_cases ek : k = n
          · subst ek; rw [set_same, if_pos ⟨by omega, by omega, hl⟩]
          · rw [set_ne _ _ _ _ ek, h2 k]
            by_cases c : 1 ≤ k ∧ k < n ∧ ln k = true
            · rw [if_pos c, if_pos ⟨c.1, by omega, c.2.2⟩]
            · rw [if_neg c, if_neg (fun q => c ⟨q.1, by omega, q.2.2⟩)]
/-- What waits, is enabled for c, and has a rank. -/
def cand (S : St) (c k : Nat) : Bool := S.st k == 1 && (takeB S c k && decide (0 < S.pr k))
/-- What holds while it is claimed: g are left; those come behind the last one. -/
def InvR (T : St) (c d q : Nat) (ln on : Nat → Bool) (rk : Nat → Nat) (g last before : Nat) : Prop :=
  (∀ k, 1 ≤ k → k < 9 → T.pr k = rk k) ∧ T.pr 0 = 0 ∧ T.st 0 = 0 ∧ T.th c = q ∧ T.en d = 0 ∧ OkS T ∧ cntN (cand T c) 9 = g ∧
  (∀ k, k < 9 → cand T c k = true → T.pr k < last ∨ (T.pr k = last ∧ before < k)) ∧ (∀ k, T.st k = 1 → ln k = true) ∧ ∀ k, 1 ≤ k → k < 9 → takeB T c k = on k
theorem hit_cand {T : St} {c r k : Nat} (h : hitB T c r k = true) (hr : 1 ≤ r) : cand T c k = true ∧ T.pr k = r := by
  unfold hitB at h
  unfold cand
  simp only [Bool.and_eq_true, beq_iff_eq] at h
  obtain ⟨h1, h2, h3⟩ := h
  rw [h2, h3, h1]
  exact ⟨by simp; omega, rfl⟩
theorem cand_hit {T : St} {c k : Nat} (h : cand T c k = true) : hitB T c (T.pr k) k = true ∧ 1 ≤ T.pr k := by
  unfold cand at h
  unfold hitB
  simp only [Bool.and_eq_true, beq_iff_eq, decide_eq_true_eq] at h
  obtain ⟨h1, h2, h3⟩ := h
  rw [h1, h2]
  exact ⟨by simp, by omega⟩
theorem none_left {T : St} {c : Nat} (h : cntN (cand T c) 9 = 0) : best T c = 0 := by
  rcases best_spec T c 7 with ⟨h1, -⟩ | ⟨q, h1, -, h3, h4, -⟩
  · exact h1
  · have := (hit_cand h4 h1).1
    rw [cntN_zero 9 h _ h3] at this
    cases this
theorem dead_side {T : St} {d : Nat} (h : T.en d = 0) (h0 : T.pr 0 = 0) : aboveB T d = false := by
  have hh : ∀ r n, hitB T d r n = false := fun r n => by
    unfold hitB takeB; rw [h]; simp
  have : best T d = 0 := by
    rcases best_spec T d 7 with ⟨h1, -⟩ | ⟨q, -, -, -, h4, -⟩
    · exact h1
    · rw [hh] at h4; cases h4
  unfold aboveB; rw [this, h0]; exact decide_eq_false (by omega)
/-- The next one that is claimed. -/
theorem next_one {T : St} {c d q : Nat} {ln on : Nat → Bool} {rk : Nat → Nat} {g last before : Nat} (h : InvR T c d q ln on rk (g + 1) last before) :
    ∃ n, best T c = n ∧ 1 ≤ n ∧ n < 9 ∧ ln n = true ∧ on n = true ∧ 1 ≤ rk n ∧ rk n < 8 ∧ (rk n < last ∨ (rk n = last ∧ before < n)) ∧ aboveB T c = decide (q < rk n) ∧ aboveB T d = false ∧ claimF T c = T.setSt n 2 ∧ InvR (T.setSt n 2) c d q ln on rk g (rk n) n := by
  obtain ⟨i1, i2, i3, i4, i5, i6, i7, i8, i9, i10⟩ := h
  obtain ⟨k, hk, hc⟩ := cntN_pos 9 (show 0 < cntN (cand T c) 9 by omega)
  obtain ⟨ch, c1⟩ := cand_hit hc
  have c7 : T.pr k ≤ 7 := by have := i6.1 k; omega
  rcases best_spec T c 7 with ⟨-, h2⟩ | ⟨r, h1, h2, h3, h4, h5, h6⟩
  · rw [h2 _ k c1 c7 hk] at ch; cases ch
  · obtain ⟨n, hn⟩ : ∃ n, bestF T c 7 = n := ⟨_, rfl⟩
    rw [hn] at h3 h4 h5
    obtain ⟨hcn, hpr⟩ := hit_cand h4 h1
    have n1 : 1 ≤ n := by
      rcases Nat.eq_zero_or_pos n with e | e
      · rw [e, i2] at hpr; omega
      · exact e
    have hst : T.st n = 1 := by
      unfold cand at hcn; simp only [Bool.and_eq_true, beq_iff_eq] at hcn; exact hcn.1
    have htk : takeB T c n = true := by
      unfold cand at hcn; simp only [Bool.and_eq_true, beq_iff_eq] at hcn; exact hcn.2.1
    have hrk := i1 n n1 h3
    have hcl : claimF T c = T.setSt n 2 := by
      unfold claimF
      have : best T c = n := hn
      rw [this]
      have : (n == 0) = false := by simp; omega
      rw [this]; rfl
    have hother : ∀ j, j ≠ n → cand (T.setSt n 2) c j = cand T c j := fun j hj => by
      unfold cand
      rw [show (T.setSt n 2).st j = T.st j from set_ne _ _ _ _ hj]; rfl
    have hself : cand (T.setSt n 2) c n = false := by
      unfold cand
      rw [show (T.setSt n 2).st n = 2 from set_same _ _ _]; rfl
    refine ⟨n, hn, n1, h3, i9 n hst, by rw [← i10 n n1 h3]; exact htk, by omega, by have := i6.1 n; omega, by rw [← hrk]; exact i8 n h3 hcn, ?_, dead_side i5 i2, hcl, fun j a b => i1 j a b, i2, ?_, i4, i5, ?_, ?_, ?_, ?_, i10⟩
    · unfold aboveB
      rw [show best T c = n from hn, i4, hrk]
    · rw [show (T.setSt n 2).st 0 = T.st 0 from set_ne _ _ _ _ (by omega)]; exact i3
    · refine ⟨i6.1, i6.2.1, i6.2.2.1, fun j => ?_⟩
      by_cases e : j = n
      · rw [e, show (T.setSt n 2).st n = 2 from set_same _ _ _]; decide
      · rw [show (T.setSt n 2).st j = T.st j from set_ne _ _ _ _ e]; exact i6.2.2.2 j
    · have := cntN_del hcn hself (fun j hj => hother j hj) 9
      rw [if_pos h3] at this
      omega
    · intro j hj hcj
      have jn : j ≠ n := fun e => by rw [e, hself] at hcj; cases hcj
      rw [hother j jn] at hcj
      obtain ⟨jh, j1⟩ := cand_hit hcj
      have j7 : T.pr j ≤ 7 := by have := i6.1 j; omega
      show T.pr j < rk n ∨ T.pr j = rk n ∧ n < j
      rcases Nat.lt_trichotomy (T.pr j) r with e | e | e
      · left; omega
      · right
        refine ⟨by omega, ?_⟩
        rcases Nat.lt_trichotomy j n with f | f | f
        · have := h5 j f
          rw [← e, jh] at this; cases this
        · exact absurd f jn
        · exact f
      · have := h6 (T.pr j) j e j7 hj
        rw [jh] at this; cases this
    · intro j hj
      by_cases e : j = n
      · rw [e, show (T.setSt n 2).st n = 2 from set_same _ _ _] at hj; cases hj
      · rw [show (T.setSt n 2).st j = T.st j from set_ne _ _ _ _ e] at hj; exact i9 j hj
end Go.Proofs.Ytfdhhmgenbopbaa
