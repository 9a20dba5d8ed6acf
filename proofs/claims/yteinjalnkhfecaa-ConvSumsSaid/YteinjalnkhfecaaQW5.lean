/- Taken from other texts: what is needed of them besides. -/
import Derived.Test.YteinjalnkhfecaaQW4
import Derived.WalkKit
import Derived.Laws.BitsAllLaws
import Derived.Laws.Bits64
import Derived.Laws.Bits64b
import Derived.Lib.ItoaNum
import Derived.ProofKit
import Derived.OpenShut
import Derived.WalkLawsBesides
import Derived.WalkSpells
import Derived.RegionTactic
import Derived.ChangeAlike
import Derived.Outline
import Derived.Laws.Externs
import Derived.Lib.Hide
import Derived.Shelf.Spec.BitsCarry
import Derived.Deep.RegionHeld3
import Derived.Laws.StructEq
import Derived.Deep.DeepCutAuto
import Derived.Deep.RegionWith
import Derived.Deep.CutBlock
import Derived.Deep.QuietTactic
import Derived.BigQuiet
import Derived.ChangeSame
import Derived.Laws.AppendOwn
import Derived.Laws.OwnMore
import Derived.Maps.AppendAt
import Derived.OwnWalk
import Derived.LoopN
import Derived.Lib.QuietBelow
import Derived.StillTailTactics
namespace Go.Proofs.Yteinjalnkhfecaa.Q
open Go.ChangeShapes Go.WideShapes Go.ChangeAt Go.RowKit
set_option linter.unusedVariables false
set_option linter.unusedSimpArgs false
theorem readN_zeroB (d m : Bool) : readN d (noughtV d m) = ⟨0, m, 0, 0⟩ := by cases d <;> cases m <;> rfl
theorem someV_dec (c1 c2 : Int) : someV c1 c2 = true ↔ (c1 = 4 ∨ c1 = 3 ∨ c2 = 4 ∨ c2 = 3) := by unfold someV; rw [decide_eq_true_eq]
def nanB (d : Bool) (a : Nat) : Bool := decide (a / fracT d % expT d = expT d - 1 ∧ a % fracT d ≠ 0)
def sval (M : Num) : Int := if M.minus then -(val M : Int) else (val M : Int)
theorem sval_raise {M : Num} (h0 : M.mag ≠ 0) (hb : M.mag < 2 ^ 64) (he : -19000 ≤ M.exp) : sval (raisedN M 126) = sval M := by
  have hl := blen_le _ _ hb
  unfold sval; rw [val_raise h0 (by decide) (by omega) he]; rfl
theorem rsticky_cases (x n : Nat) (h : x < 2 ^ 128) : (x % 2 ^ n = 0 ∧ rsticky x n * 2 ^ n = x) ∨ (x % 2 ^ n ≠ 0 ∧ rsticky x n % 2 = 1 ∧ rsticky x n ≤ x / 2 ^ n + 1) := by
  have hd := Nat.div_add_mod x (2 ^ n)
  have hs : shl (x / 2 ^ n) n = x / 2 ^ n * 2 ^ n := by
    unfold shl; exact Nat.mod_eq_of_lt (Nat.lt_of_le_of_lt (Nat.div_mul_le_self _ _) h)
  unfold rsticky
  rw [hs]
  rw [Nat.mul_comm] at hd
  by_cases h0 : x % 2 ^ n = 0
  · left
    have e : x / 2 ^ n * 2 ^ n = x := by omega
    rw [if_pos e]; exact ⟨h0, e⟩
  · right
    rw [if_neg (by omega)]
    exact ⟨h0, by omega, by omega⟩
/-- A number with its highest bit at 126 that has 74 noughts below. -/
def Rp (a : Num) : Prop := 2 ^ 126 ≤ a.mag ∧ a.mag < 2 ^ 127 ∧ a.mag % 2 ^ 74 = 0 ∧ -10000 ≤ a.exp ∧ a.exp ≤ 10000
def FinF (M : Num) : Prop := M.cls = 1 ∧ M.mag ≠ 0 ∧ M.mag < 2 ^ 53 ∧ -1074 ≤ M.exp ∧ M.exp ≤ 971
theorem rp_of {M : Num} (h : FinF M) : Rp (raisedN M 126) := by
  obtain ⟨h1, h2, h3, h4, h5⟩ := h
  have hl := blen_le _ _ h3
  have hl1 := (blen_bounds _ h2).1
  obtain ⟨r0, r1, r2⟩ := raised_mag h2 (by decide : 126 ≤ 127) (by omega)
  have he : (raisedN M 126).exp = M.exp - (((126 : Nat) : Int) + 1 - (blen M.mag : Int)) := rfl
  refine ⟨r1, r2, ?_, by omega, by omega⟩
  rw [r0, show 126 + 1 - blen M.mag = (53 - blen M.mag) + 74 by omega, Nat.pow_add, ← Nat.mul_assoc]; exact Nat.mul_mod_left _ _
theorem val_far {c W p q : Nat} (hc : c < 2 ^ 53) (hW : 2 ^ 53 ≤ W) (h : c * 2 ^ p = W * 2 ^ q) : ∃ k, p = q + (k + 1) ∧ W = c * 2 ^ (k + 1) := by
  by_cases hpq : p ≤ q
  · exfalso
    have h1 : W * 2 ^ p ≤ W * 2 ^ q := Nat.mul_le_mul_left _ (Nat.pow_le_pow_right (by decide) hpq)
    have h2 : c * 2 ^ p < W * 2 ^ p := Nat.mul_lt_mul_of_pos_right (by omega) (Nat.two_pow_pos p)
    omega
  · obtain ⟨k, rfl⟩ : ∃ k, p = q + (k + 1) := ⟨p - q - 1, by omega⟩
    refine ⟨k, rfl, ?_⟩
    apply Nat.eq_of_mul_eq_mul_right (Nat.two_pow_pos q)
    rw [← h, Nat.pow_add, Nat.mul_assoc]; congr 1; exact Nat.mul_comm _ _
theorem add_exact (a b : Num) (ha : Rp a) (hb : Rp b) (hc : a.cls = 1) (ho : b.exp ≤ a.exp) (hm : a.exp = b.exp → b.mag ≤ a.mag) (he : b.mag % 2 ^ (a.exp - b.exp).toNat = 0) :
    ((addN a b).cls = 0 ∧ sval a + sval b = 0) ∨ ((addN a b).cls = 1 ∧ (addN a b).mag ≠ 0 ∧ (addN a b).mag < 2 ^ 128 ∧ -10000 ≤ (addN a b).exp ∧ sval (addN a b) = sval a + sval b) := by
  obtain ⟨a1, a2, a3, a4, a5⟩ := ha
  obtain ⟨b1, b2, b3, b4, b5⟩ := hb
  have h127 : (2 : Nat) ^ 127 + 2 ^ 127 = 2 ^ 128 := by decide
  have h126 : (0 : Nat) < 2 ^ 126 := by decide
  obtain ⟨n, hn⟩ : ∃ n, n = (a.exp - b.exp).toNat := ⟨_, rfl⟩
  rw [← hn] at he
  have hs : rsticky b.mag n * 2 ^ n = b.mag := by
    rcases rsticky_cases b.mag n (by omega) with h | h
    · exact h.2
    · exact absurd he h.1
  obtain ⟨s, hse⟩ : ∃ s, s = rsticky b.mag n := ⟨_, rfl⟩
  rw [← hse] at hs
  have hsl : s ≤ a.mag := by
    by_cases h0 : n = 0
    · rw [h0, Nat.pow_zero, Nat.mul_one] at hs
      have := hm (by omega); omega
    · have h2 : 2 ≤ 2 ^ n := by
        obtain ⟨k, rfl⟩ : ∃ k, n = k + 1 := ⟨n - 1, by omega⟩
        rw [Nat.pow_succ]; have := Nat.two_pow_pos k; omega
      have h3 : s * 2 ≤ s * 2 ^ n := Nat.mul_le_mul_left s h2
      have h4 : (2 : Nat) ^ 127 = 2 ^ 126 * 2 := by decide
      omega
  obtain ⟨U, hU⟩ : ∃ U : Nat, U = 2 ^ (a.exp + 20000).toNat := ⟨_, rfl⟩
  have va : val a = a.mag * U := by rw [hU]; rfl
  have vb : val b = s * U := by
    unfold val; rw [← hs, hU]; exact pow_join s n b.exp a.exp (by omega) (by omega)
  have ea : addN a b = if a.minus = b.minus then ⟨a.cls, a.minus, a.exp, a.mag + s⟩ else if a.mag = s then ⟨0, false, 0, 0⟩ else ⟨a.cls, a.minus, a.exp, a.mag - s⟩ := by
    unfold addN; simp only; rw [← hn, ← hse]
  rw [ea]
  by_cases hsg : a.minus = b.minus
  · rw [if_pos hsg]
    right
    refine ⟨hc, by show a.mag + s ≠ 0; omega, by show a.mag + s < 2 ^ 128; omega, a4, ?_⟩
    have vt : val ⟨a.cls, a.minus, a.exp, a.mag + s⟩ = a.mag * U + s * U := by
      show (a.mag + s) * 2 ^ (a.exp + 20000).toNat = _; rw [← hU, Nat.add_mul]
    unfold sval
    rw [vt, va, vb, ← hsg]
    show (if a.minus = true then _ else _) = _
    generalize a.mag * U = p; generalize s * U = q
    cases a.minus
    · simp
    · simp; omega
  · rw [if_neg hsg]
    by_cases hz : a.mag = s
    · rw [if_pos hz]
      left
      refine ⟨rfl, ?_⟩
      unfold sval
      rw [va, vb, hz]
      generalize s * U = q
      revert hsg
      cases a.minus <;> cases b.minus <;> simp <;> omega
    · rw [if_neg hz]
      right
      refine ⟨hc, by show a.mag - s ≠ 0; omega, by show a.mag - s < 2 ^ 128; omega, a4, ?_⟩
      have vt : val ⟨a.cls, a.minus, a.exp, a.mag - s⟩ = a.mag * U - s * U := by
        show (a.mag - s) * 2 ^ (a.exp + 20000).toNat = _; rw [← hU, Nat.sub_mul]
      have hle : s * U ≤ a.mag * U := Nat.mul_le_mul_right U hsl
      unfold sval
      rw [vt, va, vb]
      show (if a.minus = true then _ else _) = _
      revert hle
      generalize a.mag * U = p; generalize s * U = q
      intro hle
      revert hsg
      cases a.minus <;> cases b.minus <;> simp <;> omega
theorem add_lossy (a b : Num) (ha : Rp a) (hb : Rp b) (hc : a.cls = 1) (ho : b.exp ≤ a.exp) (he : b.mag % 2 ^ (a.exp - b.exp).toNat ≠ 0) :
    ((addN a b).cls = 1 ∧ (addN a b).mag < 2 ^ 128 ∧ -10000 ≤ (addN a b).exp ∧ (addN a b).mag % 2 = 1 ∧ 2 ^ 125 ≤ (addN a b).mag) ∧ ∀ C : Num, C.mag < 2 ^ 53 → -10000 ≤ C.exp → sval C ≠ sval a + sval b := by
  obtain ⟨a1, a2, a3, a4, a5⟩ := ha
  obtain ⟨b1, b2, b3, b4, b5⟩ := hb
  have h127 : (2 : Nat) ^ 127 + 2 ^ 127 = 2 ^ 128 := by decide
  have h126 : (2 : Nat) ^ 126 = 2 ^ 125 + 2 ^ 125 := by decide
  have h53 : (2 : Nat) ^ 53 < 2 ^ 125 := by decide
  obtain ⟨n, hn⟩ : ∃ n, n = (a.exp - b.exp).toNat := ⟨_, rfl⟩
  rw [← hn] at he
  have hn75 : 74 < n := by
    apply Nat.lt_of_not_le; intro hle
    apply he
    have e : b.mag % 2 ^ 74 % 2 ^ n = b.mag % 2 ^ n := Nat.mod_mod_of_dvd _ (Nat.pow_dvd_pow 2 hle)
    rw [b3, Nat.zero_mod] at e; exact e.symm
  have hbn : b.mag / 2 ^ n < 2 ^ 53 := by
    rw [Nat.div_lt_iff_lt_mul (Nat.two_pow_pos n), ← Nat.pow_add]
    exact Nat.lt_of_lt_of_le b2 (Nat.pow_le_pow_right (by decide) (by omega))
  obtain ⟨s, hse⟩ : ∃ s, s = rsticky b.mag n := ⟨_, rfl⟩
  have hs : s % 2 = 1 ∧ s ≤ b.mag / 2 ^ n + 1 := by
    rw [hse]
    rcases rsticky_cases b.mag n (by omega) with h | h
    · exact absurd h.1 he
    · exact h.2
  have ha2 : a.mag % 2 = 0 := by
    have e : a.mag % 2 ^ 74 % 2 = a.mag % 2 := Nat.mod_mod_of_dvd _ (by decide)
    rw [a3] at e; omega
  have ea : addN a b = if a.minus = b.minus then ⟨a.cls, a.minus, a.exp, a.mag + s⟩ else if a.mag = s then ⟨0, false, 0, 0⟩ else ⟨a.cls, a.minus, a.exp, a.mag - s⟩ := by
    unfold addN; simp only; rw [← hn, ← hse]
  refine ⟨?_, ?_⟩
  · rw [ea]
    by_cases hsg : a.minus = b.minus
    · rw [if_pos hsg]
      refine ⟨hc, ?_, a4, ?_, ?_⟩
      · show a.mag + s < 2 ^ 128; omega
      · show (a.mag + s) % 2 = 1; omega
      · show 2 ^ 125 ≤ a.mag + s; omega
    · rw [if_neg hsg, if_neg (by omega)]
      refine ⟨hc, ?_, a4, ?_, ?_⟩
      · show a.mag - s < 2 ^ 128; omega
      · show (a.mag - s) % 2 = 1; omega
      · show 2 ^ 125 ≤ a.mag - s; omega
  · intro C hC hCe hv
    obtain ⟨q, hq⟩ : ∃ q, q = (b.exp + 20000).toNat := ⟨_, rfl⟩
    have va : val a = a.mag * 2 ^ n * 2 ^ q := by
      rw [hq]; unfold val; exact (pow_join a.mag n b.exp a.exp (by omega) (by omega)).symm
    have vb : val b = b.mag * 2 ^ q := by rw [hq]; rfl
    have hbig : 2 ^ 126 * 2 ^ n ≤ a.mag * 2 ^ n := Nat.mul_le_mul_right _ a1
    have h2n : 2 ≤ 2 ^ n := by
      obtain ⟨k, rfl⟩ : ∃ k, n = k + 1 := ⟨n - 1, by omega⟩
      rw [Nat.pow_succ]; have := Nat.two_pow_pos k; omega
    have hb125 : b.mag ≤ 2 ^ 125 * 2 ^ n := by
      have h4 : 2 ^ 125 * 4 ≤ 2 ^ 125 * 2 ^ n := Nat.mul_le_mul_left _ (by
        obtain ⟨k, rfl⟩ : ∃ k, n = k + 2 := ⟨n - 2, by omega⟩
        rw [Nat.pow_add]; have := Nat.two_pow_pos k; omega)
      have h5 : (2 : Nat) ^ 127 = 2 ^ 125 * 4 := by decide
      omega
    have h126n : 2 ^ 126 * 2 ^ n = 2 ^ 125 * 2 ^ n + 2 ^ 125 * 2 ^ n := by rw [h126, Nat.add_mul]
    have hWW : ∃ W, val C = W * 2 ^ q ∧ 2 ^ 125 * 2 ^ n ≤ W ∧ W % 2 ^ n ≠ 0 := by
      have hmod1 : (a.mag * 2 ^ n + b.mag) % 2 ^ n ≠ 0 := by rw [Nat.add_comm, Nat.add_mul_mod_self_right]; exact he
      have hmod2 : (a.mag * 2 ^ n - b.mag) % 2 ^ n ≠ 0 := by
        intro h0
        have h1 : (a.mag * 2 ^ n - b.mag + b.mag) % 2 ^ n = b.mag % 2 ^ n := by
          rw [Nat.add_mod, h0, Nat.zero_add, Nat.mod_mod]
        rw [Nat.sub_add_cancel (by omega), Nat.mul_mod_left] at h1
        exact he h1.symm
      have hc1 : val C = val a + val b ∨ val C = val a - val b := by
        have hle : val b ≤ val a := by rw [va, vb]; exact Nat.mul_le_mul_right _ (by omega)
        revert hv
        unfold sval
        cases C.minus <;> cases a.minus <;> cases b.minus <;> simp <;> omega
      rcases hc1 with h | h
      · exact ⟨_, by rw [h, va, vb, ← Nat.add_mul], by omega, hmod1⟩
      · exact ⟨_, by rw [h, va, vb, ← Nat.sub_mul], by omega, hmod2⟩
    obtain ⟨W, hW1, hW2, hW3⟩ := hWW
    have hW53 : 2 ^ 53 ≤ W := by
      have : 2 ^ 125 * 1 ≤ 2 ^ 125 * 2 ^ n := Nat.mul_le_mul_left _ (Nat.two_pow_pos n)
      omega
    have hcc : C.mag * 2 ^ (C.exp + 20000).toNat = W * 2 ^ q := hW1
    obtain ⟨k, hk1, hk2⟩ := val_far hC hW53 hcc
    by_cases hkn : n ≤ k + 1
    · apply hW3
      obtain ⟨j, hj⟩ : ∃ j, k + 1 = j + n := ⟨k + 1 - n, by omega⟩
      rw [hk2, hj, Nat.pow_add, ← Nat.mul_assoc]; exact Nat.mul_mod_left _ _
    · have h1 : C.mag * 2 ^ (k + 1) < 2 ^ 53 * 2 ^ n := by
        have h2 : C.mag * 2 ^ (k + 1) ≤ C.mag * 2 ^ n := Nat.mul_le_mul_left _ (Nat.pow_le_pow_right (by decide) (by omega))
        have h3 : C.mag * 2 ^ n < 2 ^ 53 * 2 ^ n := Nat.mul_lt_mul_of_pos_right hC (Nat.two_pow_pos n)
        omega
      have h4 : 2 ^ 53 * 2 ^ n ≤ 2 ^ 125 * 2 ^ n := Nat.mul_le_mul_right _ (by omega)
      omega
theorem flt_fin {d : Bool} {v : Nat} {C : Num} (h : Flt d v C) (hc : C.cls = 1) : FinF C := by
  obtain ⟨F, -, -, -, hr⟩ := h
  have h1 := readN_fin d v (by rw [hr]; exact hc)
  rw [hr] at h1
  have h2 : 2 * fracT d ≤ 2 ^ 53 := by cases d <;> decide
  exact ⟨hc, h1.1, by omega, h1.2.2.1, h1.2.2.2⟩
theorem val_pos {M : Num} (h : M.mag ≠ 0) : 0 < val M := Nat.mul_pos (by omega) (Nat.two_pow_pos _)
theorem sval_eq {M N : Num} (h : 0 < val M) (e : sval M = sval N) : val M = val N ∧ M.minus = N.minus := by
  unfold sval at e
  revert e
  cases M.minus <;> cases N.minus <;> simp <;> omega
theorem total_cases (M N : Num) (hM : FinF M) (hN : FinF N) :
    ((totalN M N).cls = 0 ∧ sval M + sval N = 0) ∨ ((totalN M N).cls = 1 ∧ (totalN M N).mag ≠ 0 ∧ (totalN M N).mag < 2 ^ 128 ∧ -10000 ≤ (totalN M N).exp ∧ sval (totalN M N) = sval M + sval N) ∨
    (((totalN M N).cls = 1 ∧ (totalN M N).mag < 2 ^ 128 ∧ -10000 ≤ (totalN M N).exp ∧ (totalN M N).mag % 2 = 1 ∧ 2 ^ 125 ≤ (totalN M N).mag) ∧ ∀ C : Num, C.mag < 2 ^ 53 → -10000 ≤ C.exp → sval C ≠ sval M + sval N) := by
  have rM := rp_of hM
  have rN := rp_of hN
  have l64 : (2 : Nat) ^ 53 < 2 ^ 64 := by decide
  have sM := sval_raise (M := M) hM.2.1 (by have := hM.2.2.1; omega) (by have := hM.2.2.2.1; omega)
  have sN := sval_raise (M := N) hN.2.1 (by have := hN.2.2.1; omega) (by have := hN.2.2.2.1; omega)
  have cM : (raisedN M 126).cls = 1 := hM.1
  have cN : (raisedN N 126).cls = 1 := hN.1
  have e : totalN M N = if swapB (raisedN M 126) (raisedN N 126) then addN (raisedN N 126) (raisedN M 126) else addN (raisedN M 126) (raisedN N 126) := by
    unfold totalN; rw [if_neg (by rw [hM.1]; decide), if_neg (by rw [hN.1]; decide)]
  rw [e, ← sM, ← sN]
  generalize raisedN M 126 = a at *
  generalize raisedN N 126 = b at *
  clear e sM sN
  by_cases hs : swapB a b = true
  · rw [if_pos hs]
    have hs' := of_decide_eq_true hs
    have ho : a.exp ≤ b.exp := by omega
    by_cases hl : a.mag % 2 ^ (b.exp - a.exp).toNat = 0
    · rcases add_exact b a rN rM cN ho (by omega) hl with h | h
      · exact .inl ⟨h.1, by omega⟩
      · exact .inr (.inl ⟨h.1, h.2.1, h.2.2.1, h.2.2.2.1, by omega⟩)
    · obtain ⟨h1, h2⟩ := add_lossy b a rN rM cN ho hl
      exact .inr (.inr ⟨h1, fun C c1 c2 => by have := h2 C c1 c2; omega⟩)
  · rw [if_neg hs]
    have hs' := of_decide_eq_false (Bool.eq_false_iff.2 hs)
    have ho : b.exp ≤ a.exp := by omega
    by_cases hl : b.mag % 2 ^ (a.exp - b.exp).toNat = 0
    · rcases add_exact a b rM rN cM ho (by omega) hl with h | h
      · exact .inl h
      · exact .inr (.inl h)
    · exact .inr (.inr (add_lossy a b rM rN cM ho hl))
/-- A finite number: one that is no nought, or a nought. -/
def Fin2 (M : Num) : Prop := FinF M ∨ (M.cls = 0 ∧ M.mag = 0)
theorem sval_zero {M : Num} (h : M.mag = 0) : sval M = 0 := by unfold sval val; rw [h]; simp
theorem sumF_fin (d : Bool) (rm : Int) (M N : Num) (hM : Fin2 M) (hN : Fin2 N) : sumF d rm M N =
    if M.cls = 0 ∧ N.cls = 0 ∧ M.minus = N.minus then (noughtV d M.minus, 0) else if (totalN M N).cls = 0 then (noughtV d (decide (rm = 2)), 0) else writeF d rm (totalN M N) := by
  have h1 : M.cls = 0 ∨ M.cls = 1 := by rcases hM with h | h; exact .inr h.1; exact .inl h.1
  have h2 : N.cls = 0 ∨ N.cls = 1 := by rcases hN with h | h; exact .inr h.1; exact .inl h.1
  unfold sumF
  rw [if_neg (by rw [someV_dec]; omega), if_neg (by omega), if_neg (by omega), if_neg (by omega)]
theorem writeF_one (d : Bool) (rm : Int) (T : Num) (h : T.cls = 1) : writeF d rm T = roundF d rm T := by
  unfold writeF; rw [if_neg (by omega), if_neg (by omega)]
theorem finF_ok {M : Num} (h : FinF M) : M.mag ≠ 0 ∧ M.mag < 2 ^ 128 ∧ -10000 ≤ M.exp := by
  have : (2 : Nat) ^ 53 < 2 ^ 128 := by decide
  exact ⟨h.2.1, by have := h.2.2.1; omega, by have := h.2.2.2.1; omega⟩
/-- A sum whose value is a float that is no nought is that float. -/
theorem sum_back (d : Bool) (rm : Int) (M N C : Num) (c : Nat) (hM : Fin2 M) (hN : Fin2 N) (hc : Flt d c C) (hv : sval C = sval M + sval N) : sumF d rm M N = (c, 0) := by
  have hC := flt_fin hc (flt_cls hc)
  have hp := val_pos hC.2.1
  rw [sumF_fin d rm M N hM hN]
  have hne : sval C ≠ 0 := by unfold sval; split <;> omega
  have one : ∀ T : Num, T.mag ≠ 0 ∧ T.mag < 2 ^ 128 ∧ -10000 ≤ T.exp → sval C = sval T → roundF d rm T = (c, 0) := by
    intro T hT hs
    have e := sval_eq hp hs
    exact round_val d rm T C c hT.1 hT.2.1 hT.2.2 hc (finF_ok hC) e.1.symm e.2.symm
  rcases hM with hM | hM
  · rw [if_neg (by rw [hM.1]; simp)]
    rcases hN with hN | hN
    · rcases total_cases M N hM hN with t | t | t
      · exact absurd (hv.trans t.2) hne
      · rw [if_neg (by rw [t.1]; decide), writeF_one d rm _ t.1]
        exact one _ ⟨t.2.1, t.2.2.1, t.2.2.2.1⟩ (hv.trans t.2.2.2.2.symm)
      · exact absurd hv (t.2 C hC.2.2.1 (by have := hC.2.2.2.1; omega))
    · have e : totalN M N = M := by unfold totalN; rw [if_neg (by rw [hM.1]; decide), if_pos hN.1]
      rw [e, if_neg (by rw [hM.1]; decide), writeF_one d rm _ hM.1]
      exact one M (finF_ok hM) (by rw [hv, sval_zero hN.2, Int.add_zero])
  · have e : totalN M N = N := by unfold totalN; rw [if_pos hM.1]
    rw [e]
    rcases hN with hN | hN
    · rw [if_neg (by rw [hN.1]; simp), if_neg (by rw [hN.1]; decide), writeF_one d rm _ hN.1]
      exact one N (finF_ok hN) (by rw [hv, sval_zero hM.2, Int.zero_add])
    · exact absurd (by rw [hv, sval_zero hM.2, sval_zero hN.2]; rfl) hne
theorem signB_pow (d : Bool) : ∃ k, signB d = 2 ^ k ∧ infB d < signB d ∧ 0 < signB d := by
  cases d
  · exact ⟨31, by decide, by decide, by decide⟩
  · exact ⟨63, by decide, by decide, by decide⟩
/-- A float of its size: its sign and what is behind. -/
theorem split_float (d : Bool) (a : Nat) (ha : a < 2 * signB d) : a = noughtV d (decide (signB d ≤ a)) + a % signB d := by
  obtain ⟨k, -, -, h0⟩ := signB_pow d
  by_cases h : signB d ≤ a
  · rw [decide_eq_true h]
    show a = signB d + a % signB d
    rw [Nat.mod_eq_sub_mod h, Nat.mod_eq_of_lt (by omega)]; omega
  · rw [decide_eq_false h]
    show a = 0 + a % signB d
    rw [Nat.mod_eq_of_lt (by omega)]; omega
def isInf (d : Bool) (a : Nat) : Bool := decide (a / fracT d % expT d = expT d - 1 ∧ a % fracT d = 0)
theorem fin_lt (d : Bool) (a : Nat) (ha : a < 2 * signB d) (h1 : nanB d a = false) (h2 : isInf d a = false) : a % signB d < infB d := by
  have h1' := of_decide_eq_false h1
  have h2' := of_decide_eq_false h2
  cases d
  · simp only [signB, fracT, expT, infB, if_neg (show ¬ (false = true) by decide)] at *
    omega
  · simp only [signB, fracT, expT, infB, if_true] at *
    omega
/-- What is read of a finite float. -/
theorem read_fin (d : Bool) (m : Bool) (F : Nat) (h : F < infB d) :
    (F = 0 ∧ readN d (noughtV d m + F) = ⟨0, m, 0, 0⟩) ∨ (0 < F ∧ Flt d (noughtV d m + F) (readN d (noughtV d m + F)) ∧ (readN d (noughtV d m + F)).minus = m ∧ FinF (readN d (noughtV d m + F))) := by
  by_cases h0 : F = 0
  · left; refine ⟨h0, ?_⟩; rw [h0]; exact readN_zeroB d m
  · right
    have hr := read_shape d m F h
    have hm : (readN d (noughtV d m + F)).minus = m := by
      rw [hr]; split
      · rfl
      · first | rfl | (rw [if_pos h0])
    have hf : Flt d (noughtV d m + F) (readN d (noughtV d m + F)) := ⟨F, by rw [hm], by omega, h, rfl⟩
    exact ⟨by omega, hf, hm, flt_fin hf (flt_cls hf)⟩
theorem read_fin2 (d m : Bool) (F : Nat) (h : F < infB d) : Fin2 (readN d (noughtV d m + F)) := by
  rcases read_fin d m F h with ⟨-, h1⟩ | ⟨-, -, -, h1⟩
  · rw [h1]; exact .inr ⟨rfl, rfl⟩
  · exact .inl h1
theorem read_sign (d m : Bool) (F : Nat) (h : F < infB d) : readN d (noughtV d m + F) = { readN d (noughtV d false + F) with minus := m } := by
  rw [read_shape d m F h, read_shape d false F h]
  split
  · rfl
  · split <;> rfl
theorem sval_neg (d m : Bool) (F : Nat) (h : F < infB d) : sval (readN d (noughtV d (!m) + F)) = - sval (readN d (noughtV d m + F)) := by
  rw [read_sign d (!m) F h, read_sign d m F h]
  have e : ∀ (M : Num) (b : Bool), val { M with minus := b } = val M := fun M b => rfl
  unfold sval
  simp only [e]
  cases m <;> simp
theorem xor_top (d : Bool) (m : Bool) (F : Nat) (h : F < signB d) : xorB d (noughtV d m + F) = noughtV d (!m) + F := by
  obtain ⟨k, hk, -, h0⟩ := signB_pow d
  unfold xorB
  rw [hk] at h
  have key : ∀ x, x < 2 ^ k → (2 ^ k + x) ^^^ 2 ^ k = x := by
    intro x hx
    have e : 2 ^ k + x = x ^^^ 2 ^ k := by
      have e1 : (x ^^^ 2 ^ k) / 2 ^ k = 1 := by rw [Nat.xor_div_two_pow, Nat.div_eq_of_lt hx, Nat.div_self (Nat.two_pow_pos k)]; rfl
      have e2 : (x ^^^ 2 ^ k) % 2 ^ k = x := by rw [Nat.xor_mod_two_pow, Nat.mod_eq_of_lt hx, Nat.mod_self]; simp
      have := Nat.div_add_mod (x ^^^ 2 ^ k) (2 ^ k)
      rw [e1, e2] at this; omega
    rw [e, Nat.xor_assoc, Nat.xor_self, Nat.xor_zero]
  cases m
  · show (0 + F) ^^^ signB d = signB d + F
    rw [hk, Nat.zero_add]
    have := key F h
    rw [← this, Nat.xor_assoc, Nat.xor_self, Nat.xor_zero]; omega
  · show (signB d + F) ^^^ signB d = 0 + F
    rw [hk, key F h, Nat.zero_add]
theorem val_mul : ∃ Z : Nat, 0 < Z ∧ ∀ (g h : Nat) (x y : Int), -20000 ≤ x → -20000 ≤ y → -20000 ≤ x + y →
    g * h * 2 ^ (x + y + 20000).toNat * Z = (g * 2 ^ (x + 20000).toNat) * (h * 2 ^ (y + 20000).toNat) := by
  refine ⟨2 ^ (20000 : Int).toNat, Nat.two_pow_pos _, ?_⟩
  intro g h x y hx hy hxy
  have e : 2 ^ (x + y + 20000).toNat * 2 ^ (20000 : Int).toNat = 2 ^ (x + 20000).toNat * 2 ^ (y + 20000).toNat := by
    rw [← Nat.pow_add, ← Nat.pow_add]; congr 1; omega
  rw [Nat.mul_assoc, e]
  generalize 2 ^ (x + 20000).toNat = p
  generalize 2 ^ (y + 20000).toNat = q
  simp only [Nat.mul_assoc, Nat.mul_left_comm]
/-- The product of two numbers, before it is rounded. -/
def prodN (M N : Num) : Num := ⟨1, M.minus != N.minus, M.exp + N.exp, M.mag * N.mag⟩
theorem mulF_fin (d : Bool) (rm : Int) (M N : Num) (hM : FinF M) (hN : FinF N) : mulF d rm M N = roundF d rm (prodN M N) ∧ (prodN M N).mag ≠ 0 ∧ (prodN M N).mag < 2 ^ 128 ∧ -10000 ≤ (prodN M N).exp := by
  have h1 := hM.1; have h2 := hN.1
  have hp : productN M N = prodN M N := by
    unfold productN; rw [if_neg (by omega), if_pos ⟨h1, h2⟩]; rfl
  have hlt : M.mag * N.mag < 2 ^ 53 * 2 ^ 53 := Nat.mul_lt_mul'' hM.2.2.1 hN.2.2.1
  have h106 : (2 : Nat) ^ 53 * 2 ^ 53 < 2 ^ 128 := by decide
  refine ⟨?_, Nat.mul_ne_zero hM.2.1 hN.2.1, Nat.lt_trans hlt h106, ?_⟩
  · unfold mulF
    rw [if_neg (by omega), hp, if_neg (by rw [someV_dec]; show ¬ ((1 : Int) = 4 ∨ (1 : Int) = 3 ∨ (0 : Int) = 4 ∨ (0 : Int) = 3); decide)]
    exact writeF_one d rm _ rfl
  · show -10000 ≤ M.exp + N.exp
    have := hM.2.2.2.1; have := hN.2.2.2.1; omega
end Go.Proofs.Yteinjalnkhfecaa.Q
