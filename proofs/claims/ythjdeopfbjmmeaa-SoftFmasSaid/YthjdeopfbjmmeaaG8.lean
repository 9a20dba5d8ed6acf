/- Exact sums of floats, there and back. -/
import Derived.Test.YthjdeopfbjmmeaaG7
namespace Go.Proofs.Ythjdeopfbjmmeaa
set_option linter.unusedVariables false
set_option linter.unusedSimpArgs false
theorem flt_fin {d : Bool} {v : Nat} {C : Num} (h : Flt d v C) (hc : C.cls = 1) : FinF C := by
  obtain ⟨F, -, -, -, hr⟩ := h
  have h1 := readN_fin d v (by rw [hr]; exact hc)
  rw [hr] at h1
  have h2 : 2 * fracT d ≤ 2 ^ 53 := by cases d <;> decide
  exact ⟨hc, h1.1, by omega, h1.2.2.1, h1.2.2.2⟩
theorem flt_cls {d : Bool} {v : Nat} {C : Num} (h : Flt d v C) : C.cls = 1 := by
  obtain ⟨F, hv, h0, hI, hr⟩ := h
  rw [hv, read_shape d C.minus F hI] at hr
  split at hr
  · rw [← hr]
  · rw [if_pos (by omega)] at hr; rw [← hr]
theorem odd_flag (d : Bool) (rm : Int) (T : Num) (h1 : T.mag < 2 ^ 128) (h2 : -10000 ≤ T.exp) (h3 : T.mag % 2 = 1) (h4 : 2 ^ 53 ≤ T.mag) : (roundF d rm T).2 ≠ 0 := by
  intro h
  obtain ⟨C, hC, hc1, -, hv⟩ := round_exact d rm T (by omega) h1 h2 h
  have hf := flt_fin hC hc1
  obtain ⟨k, -, hk⟩ := val_far hf.2.2.1 h4 (show C.mag * 2 ^ (C.exp + 20000).toNat = T.mag * 2 ^ (T.exp + 20000).toNat from hv)
  rw [Nat.pow_succ, ← Nat.mul_assoc] at hk
  omega
theorem val_pos {M : Num} (h : M.mag ≠ 0) : 0 < val M := Nat.mul_pos (by omega) (Nat.two_pow_pos _)
theorem sval_eq {M N : Num} (h : 0 < val M) (e : sval M = sval N) : val M = val N ∧ M.minus = N.minus := by
  unfold sval at e
  revert e
  cases M.minus <;> cases N.minus <;> simp <;> omega
theorem total_cases (M N : Num) (hM : FinF M) (hN : FinF N) :
    ((totalN M N).cls = 0 ∧ sval M + sval N = 0) ∨ ((totalN M N).cls = 1 ∧ (totalN M N).mag ≠ 0 ∧ (totalN M N).mag < 2 ^ 128 ∧ -10000 ≤ (totalN M N).exp ∧ sval (totalN M N) = sval M + sval N) ∨
    (((totalN M N).cls = 1 ∧ (totalN M N).mag < 2 ^ 128 ∧ -10000 ≤ (totalN M N).exp ∧ (totalN M N).mag % 2 = 1 ∧ 2 ^ 125 ≤ (totalN M N).mag) ∧ ∀ C : Num, C.mag < 2 ^ 53 → -10000 ≤ C.exp → sval C ≠ sval M + sval N) := by
  have rM := rp_of hM
  have rN := rp_of hN
  have l64 : (2 : Nat) ^ 53 < 2 ^ 64 := by decide
  have sM := sval_raise (M := M) hM.2.1 (by have := hM.2.2.1; omega) (by have := hM.2.2.2.1; omega)
  have sN := sval_raise (M := N) hN.2.1 (by have := hN.2.2.1; omega) (by have := hN.2.2.2.1; omega)
  have cM : (raisedN M 126).cls = 1 := hM.1
  have cN : (raisedN N 126).cls = 1 := hN.1
  have e : totalN M N = if swapB (raisedN M 126) (raisedN N 126) then addN (raisedN N 126) (raisedN M 126) else addN (raisedN M 126) (raisedN N 126) := by
    unfold totalN; rw [if_neg (by rw [hM.1]; decide), if_neg (by rw [hN.1]; decide)]
  rw [e, ← sM, ← sN]
  generalize raisedN M 126 = a at *
  generalize raisedN N 126 = b at *
  clear e sM sN
  by_cases hs : swapB a b = true
  · rw [if_pos hs]
    have hs' := of_decide_eq_true hs
    have ho : a.exp ≤ b.exp := by omega
    by_cases hl : a.mag % 2 ^ (b.exp - a.exp).toNat = 0
    · rcases add_exact b a rN rM cN ho (by omega) hl with h | h
      · exact .inl ⟨h.1, by omega⟩
      · exact .inr (.inl ⟨h.1, h.2.1, h.2.2.1, h.2.2.2.1, by omega⟩)
    · obtain ⟨h1, h2⟩ := add_lossy b a rN rM cN ho hl
      exact .inr (.inr ⟨h1, fun C c1 c2 => by have := h2 C c1 c2; omega⟩)
  · rw [if_neg hs]
    have hs' := of_decide_eq_false (Bool.eq_false_iff.2 hs)
    have ho : b.exp ≤ a.exp := by omega
    by_cases hl : b.mag % 2 ^ (a.exp - b.exp).toNat = 0
    · rcases add_exact a b rM rN cM ho (by omega) hl with h | h
      · exact .inl h
      · exact .inr (.inl h)
    · exact .inr (.inr (add_lossy a b rM rN cM ho hl))
/-- A finite number: one that is no nought, or a nought. -/
def Fin2 (M : Num) : Prop := FinF M ∨ (M.cls = 0 ∧ M.mag = 0)
theorem sval_zero {M : Num} (h : M.mag = 0) : sval M = 0 := by unfold sval val; rw [h]; simp
theorem sumF_fin (d : Bool) (rm : Int) (M N : Num) (hM : Fin2 M) (hN : Fin2 N) : sumF d rm M N =
    if M.cls = 0 ∧ N.cls = 0 ∧ M.minus = N.minus then (noughtV d M.minus, 0) else if (totalN M N).cls = 0 then (noughtV d (decide (rm = 2)), 0) else writeF d rm (totalN M N) := by
  have h1 : M.cls = 0 ∨ M.cls = 1 := by rcases hM with h | h; exact .inr h.1; exact .inl h.1
  have h2 : N.cls = 0 ∨ N.cls = 1 := by rcases hN with h | h; exact .inr h.1; exact .inl h.1
  unfold sumF
  rw [if_neg (by rw [someV_dec]; omega), if_neg (by omega), if_neg (by omega), if_neg (by omega)]
theorem writeF_one (d : Bool) (rm : Int) (T : Num) (h : T.cls = 1) : writeF d rm T = roundF d rm T := by
  unfold writeF; rw [if_neg (by omega), if_neg (by omega)]
theorem finF_ok {M : Num} (h : FinF M) : M.mag ≠ 0 ∧ M.mag < 2 ^ 128 ∧ -10000 ≤ M.exp := by
  have : (2 : Nat) ^ 53 < 2 ^ 128 := by decide
  exact ⟨h.2.1, by have := h.2.2.1; omega, by have := h.2.2.2.1; omega⟩
/-- What a sum without flags has kept. -/
theorem sum_exact (d : Bool) (rm : Int) (M N : Num) (hM : Fin2 M) (hN : Fin2 N) (h : (sumF d rm M N).2 = 0) :
    ∃ C, (Flt d (sumF d rm M N).1 C ∨ ∃ m, (sumF d rm M N).1 = noughtV d m ∧ C = ⟨0, m, 0, 0⟩) ∧ sval C = sval M + sval N := by
  rw [sumF_fin d rm M N hM hN] at h ⊢
  by_cases hz : M.cls = 0 ∧ N.cls = 0 ∧ M.minus = N.minus
  · rw [if_pos hz]
    have m0 : M.mag = 0 := by rcases hM with h | h; exact absurd hz.1 (by rw [h.1]; decide); exact h.2
    have n0 : N.mag = 0 := by rcases hN with h | h; exact absurd hz.2.1 (by rw [h.1]; decide); exact h.2
    exact ⟨_, .inr ⟨_, rfl, rfl⟩, by rw [sval_zero m0, sval_zero n0]; exact sval_zero rfl⟩
  rw [if_neg hz] at h ⊢
  have one : ∀ T : Num, T.cls = 1 → T.mag ≠ 0 ∧ T.mag < 2 ^ 128 ∧ -10000 ≤ T.exp → (roundF d rm T).2 = 0 → ∃ C, (Flt d (roundF d rm T).1 C ∨ ∃ m, (roundF d rm T).1 = noughtV d m ∧ C = ⟨0, m, 0, 0⟩) ∧ sval C = sval T := by
    intro T hT hb hr
    obtain ⟨C, hC, hc1, hm, hv⟩ := round_exact d rm T hb.1 hb.2.1 hb.2.2 hr
    exact ⟨C, .inl hC, by unfold sval; rw [hm, hv]⟩
  rcases hM with hM | hM
  · rcases hN with hN | hN
    · rcases total_cases M N hM hN with t | t | t
      · rw [if_pos t.1]; exact ⟨_, .inr ⟨_, rfl, rfl⟩, by rw [t.2]; exact sval_zero rfl⟩
      · rw [if_neg (by rw [t.1]; decide), writeF_one d rm _ t.1] at h ⊢
        rw [← t.2.2.2.2]; exact one _ t.1 ⟨t.2.1, t.2.2.1, t.2.2.2.1⟩ h
      · exfalso
        rw [if_neg (by rw [t.1.1]; decide), writeF_one d rm _ t.1.1] at h
        exact odd_flag d rm _ t.1.2.1 t.1.2.2.1 t.1.2.2.2.1 (Nat.le_trans (by decide) t.1.2.2.2.2) h
    · have e : totalN M N = M := by unfold totalN; rw [if_neg (by rw [hM.1]; decide), if_pos hN.1]
      rw [e, if_neg (by rw [hM.1]; decide), writeF_one d rm _ hM.1] at h ⊢
      rw [sval_zero hN.2, Int.add_zero]; exact one M hM.1 (finF_ok hM) h
  · have e : totalN M N = N := by unfold totalN; rw [if_pos hM.1]
    rw [e] at h ⊢
    rw [sval_zero hM.2, Int.zero_add]
    rcases hN with hN | hN
    · rw [if_neg (by rw [hN.1]; decide), writeF_one d rm _ hN.1] at h ⊢
      exact one N hN.1 (finF_ok hN) h
    · rw [if_pos hN.1]; exact ⟨_, .inr ⟨_, rfl, rfl⟩, by rw [sval_zero hN.2]; exact sval_zero rfl⟩
/-- A sum whose value is a float that is no nought is that float. -/
theorem sum_back (d : Bool) (rm : Int) (M N C : Num) (c : Nat) (hM : Fin2 M) (hN : Fin2 N) (hc : Flt d c C) (hv : sval C = sval M + sval N) : sumF d rm M N = (c, 0) := by
  have hC := flt_fin hc (flt_cls hc)
  have hp := val_pos hC.2.1
  rw [sumF_fin d rm M N hM hN]
  have hne : sval C ≠ 0 := by unfold sval; split <;> omega
  have one : ∀ T : Num, T.mag ≠ 0 ∧ T.mag < 2 ^ 128 ∧ -10000 ≤ T.exp → sval C = sval T → roundF d rm T = (c, 0) := by
    intro T hT hs
    have e := sval_eq hp hs
    exact round_val d rm T C c hT.1 hT.2.1 hT.2.2 hc (finF_ok hC) e.1.symm e.2.symm
  rcases hM with hM | hM
  · rw [if_neg (by rw [hM.1]; simp)]
    rcases hN with hN | hN
    · rcases total_cases M N hM hN with t | t | t
      · exact absurd (hv.trans t.2) hne
      · rw [if_neg (by rw [t.1]; decide), writeF_one d rm _ t.1]
        exact one _ ⟨t.2.1, t.2.2.1, t.2.2.2.1⟩ (hv.trans t.2.2.2.2.symm)
      · exact absurd hv (t.2 C hC.2.2.1 (by have := hC.2.2.2.1; omega))
    · have e : totalN M N = M := by unfold totalN; rw [if_neg (by rw [hM.1]; decide), if_pos hN.1]
      rw [e, if_neg (by rw [hM.1]; decide), writeF_one d rm _ hM.1]
      exact one M (finF_ok hM) (by rw [hv, sval_zero hN.2, Int.add_zero])
  · have e : totalN M N = N := by unfold totalN; rw [if_pos hM.1]
    rw [e]
    rcases hN with hN | hN
    · rw [if_neg (by rw [hN.1]; simp), if_neg (by rw [hN.1]; decide), writeF_one d rm _ hN.1]
      exact one N (finF_ok hN) (by rw [hv, sval_zero hM.2, Int.zero_add])
    · exact absurd (by rw [hv, sval_zero hM.2, sval_zero hN.2]; rfl) hne
end Go.Proofs.Ythjdeopfbjmmeaa
