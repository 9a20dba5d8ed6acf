/- What is read can be written back: its mathematics. -/
import Derived.Test.YtmlbobjbkbcabaaD0
import Derived.Test.YtmlbobjbkbcabaaF2
namespace Go.Proofs.Ytmlbobjbkbcabaa
open Go.ChangeShapes Go.WideShapes Go.ChangeAt Go.RowKit P
set_option linter.unusedVariables false
set_option linter.unusedSimpArgs false
theorem join_st (c : Nat → Nat) (hc : OkC c) (k : Nat) : joinN c (k + 1) = joinN c k + c k * 2 ^ (8 * k) := by
  show joinN c k ||| c k * 2 ^ (8 * k) = _
  rw [Nat.or_comm, Nat.mul_comm, ← Nat.two_pow_add_eq_or_of_lt (join_lt c hc k), Nat.add_comm]
theorem join_byte (c : Nat → Nat) (hc : OkC c) (k : Nat) (hk : k < 8) : byteF (joinN c 8) k = c k := by
  have e : joinN c 8 = c 0 + c 1 * 256 + c 2 * 65536 + c 3 * 16777216 + c 4 * 4294967296 + c 5 * 1099511627776 + c 6 * 281474976710656 + c 7 * 72057594037927936 := by
    rw [join_st c hc 7, join_st c hc 6, join_st c hc 5, join_st c hc 4, join_st c hc 3, join_st c hc 2, join_st c hc 1, join_st c hc 0]
    show 0 + c 0 * 1 + c 1 * 256 + c 2 * 65536 + c 3 * 16777216 + c 4 * 4294967296 + c 5 * 1099511627776 + c 6 * 281474976710656 + c 7 * 72057594037927936 = _
    omega
  have h0 := hc 0; have h1 := hc 1; have h2 := hc 2; have h3 := hc 3; have h4 := hc 4; have h5 := hc 5; have h6 := hc 6; have h7 := hc 7
  unfold byteF
  rw [e]
  rcases (by omega : k = 0 ∨ k = 1 ∨ k = 2 ∨ k = 3 ∨ k = 4 ∨ k = 5 ∨ k = 6 ∨ k = 7) with rfl | rfl | rfl | rfl | rfl | rfl | rfl | rfl
  · show _ / 1 % 256 = _; omega
  · show _ / 256 % 256 = _; omega
  · show _ / 65536 % 256 = _; omega
  · show _ / 16777216 % 256 = _; omega
  · show _ / 4294967296 % 256 = _; omega
  · show _ / 1099511627776 % 256 = _; omega
  · show _ / 281474976710656 % 256 = _; omega
  · show _ / 72057594037927936 % 256 = _; omega
/-- A mask's bits that are written as they are. -/
theorem mix_back (a b m : Nat) (ha : a < 18446744073709551616) (hm : m < 18446744073709551616) (h : b &&& m = a &&& m) : mixN a b m = a := by
  unfold mixN
  rw [h]
  refine ext64 (or_lt (and_lt _ _ ha) (and_lt _ _ ha)) ha (fun i hi => ?_)
  simp only [Nat.testBit_and, Nat.testBit_or]
  rw [not_bit m i hm hi]
  cases a.testBit i <;> cases m.testBit i <;> rfl
theorem setN_back {S : Nat → Nat} {j x k : Nat} (h : x = S j) : setN S j x k = S k := by
  by_cases e : k = j
  · subst e; rw [setN_at]; exact h
  · rw [setN_ne e]
theorem setC_back {S F : Nat → Nat} (h : ∀ j, j < 8 → F j = cfO S j) (k : Nat) : setC S F k = S k := by
  by_cases e : k < 22 ∨ 30 ≤ k
  · exact setC_lo e
  · obtain ⟨j, rfl⟩ : ∃ j, k = 22 + j := ⟨k - 22, by omega⟩
    have hj : j < 8 := by omega
    rw [setC_at hj, h j hj]; unfold cfO; rw [Nat.mod_eq_of_lt hj]
theorem setA_back {S F : Nat → Nat} (h : ∀ j, j < 8 → F j = adO S j) (k : Nat) (hk : k < 38) : setA S F k = S k := by
  by_cases e : k < 30
  · exact setA_lo e
  · obtain ⟨j, rfl⟩ : ∃ j, k = 30 + j := ⟨k - 30, by omega⟩
    have hj : j < 8 := by omega
    rw [setA_at, h j hj]; unfold adO; rw [Nat.mod_eq_of_lt hj]
theorem settle_back {S : Nat → Nat} (h : Leg S) (n : Int) : ∀ k, k < 38 → (k = 0 → ¬ (1 ≤ n ∧ n ≤ 3)) → wrF S n (rdF S n 0 0) k = S k := by
  intro k hk h0
  have u : ∀ k, k < 22 → S k < 18446744073709551616 := fun k hk => h.ok.u k (by omega)
  unfold wrF
  by_cases c0 : fixB n = true
  · rw [if_pos c0]
  rw [if_neg c0]
  by_cases c1 : n = 1
  · subst c1
    rw [if_pos rfl, setN_ne (fun e => h0 e (by decide))]
    exact setN_back (mix_back _ _ _ (u 21 (by decide)) (by decide) (by show S 21 &&& 31 &&& 31 = _; exact and_sub _ _))
  rw [if_neg c1]
  by_cases c2 : n = 2
  · subst c2
    rw [if_pos rfl, setN_ne (fun e => h0 e (by decide))]
    refine setN_back (mix_back _ _ _ (u 21 (by decide)) (by decide) ?_)
    show (S 21 &&& 224) / 32 * 32 % 18446744073709551616 &&& 224 = _
    have e1 : (S 21 &&& 224) % 32 = 0 := by
      rw [show (32 : Nat) = 2 ^ 5 by decide, ← Nat.and_two_pow_sub_one_eq_mod, Nat.and_assoc]; exact Nat.and_zero _
    have e2 : S 21 &&& 224 ≤ 224 := Nat.and_le_right
    rw [show (S 21 &&& 224) / 32 * 32 % 18446744073709551616 = S 21 &&& 224 by omega]
    exact and_sub _ _
  rw [if_neg c2]
  by_cases c3 : n = 3
  · subst c3
    rw [if_pos rfl, setN_ne (fun e => h0 e (by decide))]
    exact setN_back (h.pl 21 (by decide))
  rw [if_neg c3]
  by_cases c4 : n = 256
  · subst c4
    rw [if_pos rfl]
    refine setN_back ?_
    rw [show rdF S 256 0 0 = S 0 &&& 9223372045445521698 from rfl, mix_back _ _ _ (u 0 (by decide)) (by decide) (by rw [Nat.and_assoc]; rfl)]
    exact h.m0
  rw [if_neg c4]
  by_cases c5 : n = 768
  · subst c5
    rw [if_pos rfl]
    refine setN_back ?_
    rw [show rdF S 768 0 0 = S 0 from rfl]
    unfold stB
    rw [h.m1]
    exact h.m0
  rw [if_neg c5]
  by_cases c6 : n = 260
  · subst c6
    rw [if_pos rfl]
    exact setN_back (mix_back _ _ _ (u 4 (by decide)) (u 3 (by decide)) (by show S 4 &&& S 3 &&& S 3 = _; exact and_sub _ _))
  rw [if_neg c6]
  by_cases c7 : n = 772
  · subst c7
    rw [if_pos rfl]
    exact setN_back (h.pl 4 (by decide))
  rw [if_neg c7]
  have m0 : mipN S 0 = S 5 := by unfold mipN; rw [Nat.zero_and, Nat.or_zero]
  by_cases c8 : n = 324
  · subst c8
    rw [if_pos rfl]
    refine setN_back (mix_back _ _ _ (u 5 (by decide)) (and_lt2 _ _ (u 3 (by decide))) ?_)
    show mipN S 0 &&& S 3 &&& (2 &&& S 3) = _
    rw [m0, Nat.and_assoc, Nat.and_comm 2, ← Nat.and_assoc (S 3), Nat.and_self]
  rw [if_neg c8]
  by_cases c9 : n = 836
  · subst c9
    rw [if_pos rfl]
    exact setN_back (mix_back _ _ _ (u 5 (by decide)) (by decide) (by show mipN S 0 &&& 546 = _; rw [m0]))
  rw [if_neg c9]
  by_cases c10 : n = 928
  · subst c10
    rw [if_pos rfl]
    refine setC_back (fun j hj => ?_) k
    unfold cfgF
    rw [show rdF S 928 0 0 = joinN (cfO S) 8 from rfl, join_byte (cfO S) h.ok.c j hj, (h.cf j hj).1]
    cases lockB (cfO S j) || oddB (cfO S j) <;> rfl
  rw [if_neg c10]
  by_cases c11 : 944 ≤ n ∧ n ≤ 951
  · rw [if_pos c11]
    refine setA_back (fun j hj => ?_) k hk
    obtain ⟨i, hi, rfl⟩ : ∃ i : Nat, i < 8 ∧ n = 944 + i := ⟨(n - 944).toNat, by omega, by omega⟩
    have e : rdF S (944 + (i : Int)) 0 0 = S (30 + i) := by
      rcases (by omega : i = 0 ∨ i = 1 ∨ i = 2 ∨ i = 3 ∨ i = 4 ∨ i = 5 ∨ i = 6 ∨ i = 7) with rfl | rfl | rfl | rfl | rfl | rfl | rfl | rfl <;> rfl
    rw [e, show (944 + (i : Int) - 944).toNat = i by omega]
    unfold adrF
    by_cases q : j = i
    · subst q
      have hl := h.ad j hj
      have e3 : adO S j = S (30 + j) := by unfold adO; rw [Nat.mod_eq_of_lt hj]
      rw [e3] at hl ⊢
      have : adr (S (30 + j)) = S (30 + j) := Nat.mod_eq_of_lt hl
      rw [this]
      cases (j == j && !heldB (cfO S) j) <;> rfl
    · rw [show (j == i) = false by simp [q]]; rfl
  rw [if_neg c11]
  by_cases c12 : plK n = 38
  · rw [if_pos c12]
  rw [if_neg c12]
  have st : ∀ j m, j < 22 → mskC j = m → (if fitB n (S j) = true then setN S j (S j &&& m) else S) k = S k := fun j m h1 h4 => by
    cases fitB n (S j)
    · rfl
    · rw [if_pos rfl, ← h4]; exact setN_back (h.pl j h1)
  rcases pl_cases c12 with rfl | rfl | rfl | rfl | rfl | rfl | rfl | rfl | rfl | rfl | rfl | rfl | rfl | rfl | rfl | rfl | rfl | rfl | rfl | rfl | rfl | rfl | rfl | rfl | rfl | rfl | rfl | rfl
  all_goals first
    | exact absurd (by decide) c0
    | exact absurd (by decide) c11
    | exact st _ _ (by decide) rfl
theorem rd_lt {S : Nat → Nat} (h : OkS S) (n : Int) (lines now : Nat) (hl : lines < 18446744073709551616) (hw : now < 18446744073709551616) : rdF S n lines now < 18446744073709551616 := by
  have u : ∀ k, k < 22 → S k < 18446744073709551616 := fun k hk => h.u k (by omega)
  unfold rdF
  by_cases c : specB n = true
  · rw [if_pos c]
    unfold specN
    by_cases d1 : n = 1
    · rw [if_pos d1]; exact and_lt2 _ _ (by decide)
    rw [if_neg d1]
    by_cases d2 : n = 2
    · rw [if_pos d2]; exact Nat.lt_of_le_of_lt (Nat.div_le_self _ _) (and_lt2 _ _ (by decide))
    rw [if_neg d2]
    by_cases d3 : n = 3
    · rw [if_pos d3]; exact u 21 (by decide)
    rw [if_neg d3]
    by_cases d4 : n = 256
    · rw [if_pos d4]; exact and_lt2 _ _ (by decide)
    rw [if_neg d4]
    by_cases d5 : n = 768
    · rw [if_pos d5]; exact u 0 (by decide)
    rw [if_neg d5]
    by_cases d6 : n = 260
    · rw [if_pos d6]; exact and_lt _ _ (u 4 (by decide))
    rw [if_neg d6]
    by_cases d7 : n = 772
    · rw [if_pos d7]; exact u 4 (by decide)
    rw [if_neg d7]
    have hm : mipN S lines < 18446744073709551616 := or_lt (u 5 (by decide)) (and_lt _ _ hl)
    by_cases d8 : n = 324
    · rw [if_pos d8]; exact and_lt _ _ hm
    rw [if_neg d8]
    by_cases d9 : n = 836
    · rw [if_pos d9]; exact hm
    rw [if_neg d9]
    by_cases d10 : n = 769
    · rw [if_pos d10]; decide
    rw [if_neg d10]
    by_cases d11 : n = 928
    · rw [if_pos d11]; exact join_8 _ h.c 8 (by decide)
    rw [if_neg d11]; exact hw
  · rw [if_neg c]
    by_cases e : plK n = 38
    · rw [if_pos e]; decide
    · rw [if_neg e]
      rcases pl_cases e with rfl | rfl | rfl | rfl | rfl | rfl | rfl | rfl | rfl | rfl | rfl | rfl | rfl | rfl | rfl | rfl | rfl | rfl | rfl | rfl | rfl | rfl | rfl | rfl | rfl | rfl | rfl | rfl <;> exact h.u _ (by decide)
end Go.Proofs.Ytmlbobjbkbcabaa
