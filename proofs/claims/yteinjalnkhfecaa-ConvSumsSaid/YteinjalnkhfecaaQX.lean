/- Taken from other texts: what is needed of them besides. -/
import Derived.Test.YteinjalnkhfecaaQL
import Derived.Test.YteinjalnkhfecaaQG
import Derived.Test.YteinjalnkhfecaaQC
import Derived.Test.YteinjalnkhfecaaQB
import Derived.WalkKit
import Derived.Laws.BitsAllLaws
import Derived.Laws.Bits64
import Derived.Laws.Bits64b
import Derived.Lib.ItoaNum
import Derived.ProofKit
import Derived.OpenShut
import Derived.WalkLawsBesides
import Derived.WalkSpells
import Derived.RegionTactic
import Derived.ChangeAlike
import Derived.Outline
import Derived.Laws.Externs
import Derived.Lib.Hide
import Derived.Shelf.Spec.BitsCarry
import Derived.Deep.RegionHeld3
import Derived.Laws.StructEq
import Derived.Deep.DeepCutAuto
import Derived.Deep.RegionWith
import Derived.Deep.CutBlock
import Derived.Deep.QuietTactic
import Derived.BigQuiet
import Derived.ChangeSame
import Derived.Laws.AppendOwn
import Derived.Laws.OwnMore
import Derived.Maps.AppendAt
import Derived.OwnWalk
import Derived.LoopN
import Derived.Lib.QuietBelow
import Derived.StillTailTactics
namespace Go.Proofs.Yteinjalnkhfecaa.Q
open Go.ChangeShapes Go.WideShapes Go.ChangeAt Go.RowKit
set_option linter.unusedVariables false
set_option linter.unusedSimpArgs false
/-- A float taken apart, as the code has it. -/
structure Num where
  cls : Nat
  minus : Bool
  exp : Int
  mag : Nat
/-- Shifted to the left, within 128 bits. -/
def shl (x n : Nat) : Nat := x * 2 ^ n % 2 ^ 128
def classV (d : Bool) (fr : Nat) : Int := if fr = 0 then 2 else if fr / (fracT d / 2) = 0 then 4 else 3
/-- A float taken apart. -/
def readN (d : Bool) (a : Nat) : Num :=
  let field := a / fracT d % expT d
  let fr := a % fracT d
  let m := decide (a / signB d % 2 = 1)
  if field = expT d - 1 then ⟨(classV d fr).toNat, m, 0, 0⟩
  else if field ≠ 0 then ⟨1, m, (field : Int) - bias d - fb d, fr + fracT d⟩
  else if fr ≠ 0 then ⟨1, m, 1 - bias d - fb d, fr⟩
  else ⟨0, m, 0, 0⟩
theorem IsW.minus {h l x h' l' x' : Nat} (H : IsW h l x) (H' : IsW h' l' x') (hs : x' ≤ x) :
    IsW ((h + 18446744073709551616 - h' - (if l < l' + 0 then 1 else 0)) % 18446744073709551616) ((l + 18446744073709551616 - l' - 0) % 18446744073709551616) (x - x') := by
  obtain ⟨a, b, rfl⟩ := H; obtain ⟨c, d, rfl⟩ := H'
  refine ⟨by omega, by omega, ?_⟩; split <;> omega
/-- The same number, its highest bit brought to a place. -/
def raisedN (N : Num) (p : Nat) : Num := ⟨N.cls, N.minus, N.exp - ((p : Int) + 1 - (blen N.mag : Int)), shl N.mag (p + 1 - blen N.mag)⟩
theorem raised_mag {N : Num} {p : Nat} (h0 : N.mag ≠ 0) (hp : p ≤ 127) (hb : blen N.mag ≤ p + 1) : (raisedN N p).mag = N.mag * 2 ^ (p + 1 - blen N.mag) ∧ 2 ^ p ≤ (raisedN N p).mag ∧ (raisedN N p).mag < 2 ^ (p + 1) := by
  obtain ⟨a, b, c⟩ := blen_bounds N.mag h0
  have hq : 0 < 2 ^ (p + 1 - blen N.mag) := Nat.two_pow_pos _
  have e1 : 2 ^ (blen N.mag - 1) * 2 ^ (p + 1 - blen N.mag) = 2 ^ p := by rw [← Nat.pow_add]; congr 1; omega
  have e2 : 2 ^ blen N.mag * 2 ^ (p + 1 - blen N.mag) = 2 ^ (p + 1) := by rw [← Nat.pow_add]; congr 1; omega
  have h1 : 2 ^ p ≤ N.mag * 2 ^ (p + 1 - blen N.mag) := by rw [← e1]; exact Nat.mul_le_mul_right _ b
  have h2 : N.mag * 2 ^ (p + 1 - blen N.mag) < 2 ^ (p + 1) := by rw [← e2]; exact Nat.mul_lt_mul_of_pos_right c hq
  have h3 : 2 ^ (p + 1) ≤ 2 ^ 128 := Nat.pow_le_pow_right (by decide) (by omega)
  have e : (raisedN N p).mag = N.mag * 2 ^ (p + 1 - blen N.mag) := by
    show shl _ _ = _
    unfold shl; exact Nat.mod_eq_of_lt (by omega)
  rw [e]; exact ⟨rfl, h1, h2⟩
/-- The float of a number that is finite and not 0, as the code has it. -/
def roundF (d : Bool) (rm : Int) (N : Num) : Nat × Int := roundX d rm (raisedN N 127).minus (raisedN N 127).exp (raisedN N 127).mag
theorem lt_of_div {F T : Nat} (hT : 0 < T) (h : F / T = 0) : F < T := by
  have h1 := Nat.div_add_mod F T
  rw [h, Nat.mul_zero] at h1
  have h2 := Nat.mod_lt F hT
  omega
theorem read_shape (d m : Bool) (F : Nat) (h : F < infB d) : readN d (noughtV d m + F) =
    if F / fracT d ≠ 0 then ⟨1, m, ((F / fracT d : Nat) : Int) - bias d - fb d, F % fracT d + fracT d⟩ else if F ≠ 0 then ⟨1, m, 1 - bias d - fb d, F⟩ else ⟨0, m, 0, 0⟩ := by
  have e1 : (noughtV d m + F) / fracT d % expT d = F / fracT d ∧ F / fracT d < expT d - 1 := by
    cases d <;> cases m <;> simp [noughtV, signB, fracT, expT, infB] at * <;> omega
  have e2 : (noughtV d m + F) % fracT d = F % fracT d := by
    cases d <;> cases m <;> simp [noughtV, signB, fracT, expT, infB] at * <;> omega
  have e3 : decide ((noughtV d m + F) / signB d % 2 = 1) = m := by
    cases d <;> cases m <;> simp [noughtV, signB, fracT, expT, infB] at * <;> omega
  have hT : 0 < fracT d := by cases d <;> decide
  unfold readN
  simp only [e1.1, e2, e3]
  rw [if_neg (by omega)]
  by_cases h1 : F / fracT d ≠ 0
  · rw [if_pos h1, if_pos h1]
  · rw [if_neg h1, if_neg h1]
    have h2 : F % fracT d = F := Nat.mod_eq_of_lt (lt_of_div hT (by omega))
    rw [h2]
/-- A finite float that is no nought, and what is read of it. -/
def Flt (d : Bool) (v : Nat) (C : Num) : Prop := ∃ F, v = noughtV d C.minus + F ∧ 0 < F ∧ F < infB d ∧ readN d v = C
def val (M : Num) : Nat := M.mag * 2 ^ (M.exp + 20000).toNat
theorem val_raise {M : Num} {p : Nat} (h0 : M.mag ≠ 0) (hp : p ≤ 127) (hb : blen M.mag ≤ p + 1) (he : -19000 ≤ M.exp) : val (raisedN M p) = val M := by
  have h1 := (raised_mag h0 hp hb).1
  unfold val
  rw [h1]
  have h2 : (raisedN M p).exp = M.exp - ((p : Int) + 1 - (blen M.mag : Int)) := rfl
  rw [h2, Nat.mul_assoc, ← Nat.pow_add]
  congr 2; omega
theorem val_inj {g h : Nat} {x y : Int} (g1 : 2 ^ 127 ≤ g) (g2 : g < 2 ^ 128) (h1 : 2 ^ 127 ≤ h) (h2 : h < 2 ^ 128) (hx : -20000 ≤ x) (hy : -20000 ≤ y)
    (e : g * 2 ^ (x + 20000).toNat = h * 2 ^ (y + 20000).toNat) : g = h ∧ x = y := by
  have key : ∀ (a b p q : Nat), 2 ^ 127 ≤ a → b < 2 ^ 128 → a * 2 ^ q = b * 2 ^ p → ¬ p < q := by
    intro a b p q ha hb hab hpq
    obtain ⟨k, rfl⟩ : ∃ k, q = p + (k + 1) := ⟨q - p - 1, by omega⟩
    have hp := Nat.two_pow_pos p
    have : b = a * 2 ^ (k + 1) := by
      apply Nat.eq_of_mul_eq_mul_right hp
      rw [← hab, Nat.pow_add, Nat.mul_assoc]; congr 1; exact Nat.mul_comm _ _
    have h3 : 2 ≤ 2 ^ (k + 1) := by rw [Nat.pow_succ]; have := Nat.two_pow_pos k; omega
    have h4 : a * 2 ≤ a * 2 ^ (k + 1) := Nat.mul_le_mul_left a h3
    have h5 : (2 : Nat) ^ 128 = 2 ^ 127 * 2 := by decide
    omega
  have n1 := key g h (y + 20000).toNat (x + 20000).toNat g1 h2 e
  have n2 := key h g (x + 20000).toNat (y + 20000).toNat h1 g2 e.symm
  have hxy : x = y := by omega
  subst hxy
  exact ⟨Nat.eq_of_mul_eq_mul_right (Nat.two_pow_pos _) e, rfl⟩
theorem cut_exact (rm : Int) (m : Bool) (k n : Nat) : cutK rm m (k * 2 ^ n) n = k ∧ restV (k * 2 ^ n) n = 0 := by
  have h0 : restV (k * 2 ^ n) n = 0 := rest_zero (Nat.mul_mod_left _ _)
  unfold cutK
  rw [h0, away_exact, Nat.mul_div_cancel _ (Nat.two_pow_pos n)]
  exact ⟨rfl, rfl⟩
theorem round_id (d : Bool) (rm : Int) (C : Num) (c : Nat) (h : Flt d c C) : roundF d rm C = (c, 0) := by
  obtain ⟨F, hc, hF0, hFI, hr⟩ := h
  obtain ⟨lf, lT, l2, l3, l4, l5, l6, l7⟩ := lay_facts d
  have hT : 0 < fracT d := by cases d <;> decide
  rw [hc] at hr
  rw [read_shape d C.minus F hFI] at hr
  by_cases h1 : F / fracT d ≠ 0
  · rw [if_pos h1] at hr
    have hdm := Nat.div_add_mod F (fracT d)
    have hml := Nat.mod_lt F hT
    obtain ⟨f, hf⟩ : ∃ f, f = F / fracT d := ⟨_, rfl⟩
    obtain ⟨r, hrr⟩ : ∃ r, r = F % fracT d := ⟨_, rfl⟩
    rw [← hf, ← hrr] at hr hdm
    rw [← hrr] at hml
    rw [← hf] at h1
    have hfb : (f : Int) ≤ 2 * bias d := by
      apply Decidable.byContradiction; intro hlt
      have h2 : (2 * bias d + 1) * (fracT d : Int) ≤ (f : Int) * fracT d := Int.mul_le_mul_of_nonneg_right (by omega) (by omega)
      have h3 : (fracT d * f : Nat) ≤ F := by omega
      have h4 : ((fracT d * f : Nat) : Int) = (f : Int) * fracT d := by rw [Int.natCast_mul, Int.mul_comm]
      omega
    have hbl : blen (r + fracT d) = fb d + 1 := blen_of _ (fb d) (by omega) (by rw [← lT]; omega) (by rw [Nat.pow_succ, ← lT]; omega)
    have hR : (raisedN C 127).mag = (r + fracT d) * 2 ^ (127 - fracB d) := by
      have h2 := (raised_mag (N := C) (p := 127) (by rw [← hr]; show r + fracT d ≠ 0; omega) (by decide) (by rw [← hr]; show blen (r + fracT d) ≤ _; omega)).1
      rw [h2, ← hr]
      show (r + fracT d) * 2 ^ (127 + 1 - blen (r + fracT d)) = _
      rw [hbl]; congr 2; omega
    have hX : (raisedN C 127).exp = (f : Int) - bias d - 127 := by
      show C.exp - (((127 : Nat) : Int) + 1 - (blen C.mag : Int)) = _
      rw [← hr]; show ((f : Int) - bias d - fb d) - (((127 : Nat) : Int) + 1 - (blen (r + fracT d) : Int)) = _
      rw [hbl]; omega
    obtain ⟨c1, c2⟩ := cut_exact rm C.minus (r + fracT d) (127 - fracB d)
    unfold roundF roundX
    rw [hR, hX, show (raisedN C 127).minus = C.minus from rfl, c1, show diffV ((r + fracT d) * 2 ^ (127 - fracB d)) (127 - fracB d) = false by unfold diffV; rw [c2]; rfl]
    unfold roundY
    simp only
    rw [l2, Nat.div_eq_of_lt (show r + fracT d < 2 * fracT d by omega), if_neg (by omega), if_neg (by omega), hc]
    congr 2
    have e : ((f : Int) - bias d - 127 + 127 + (bias d - 1)).toNat = f - 1 := by omega
    rw [e]
    obtain ⟨j, rfl⟩ : ∃ j, f = j + 1 := ⟨f - 1, by omega⟩
    rw [Nat.add_sub_cancel]
    rw [Nat.mul_add, Nat.mul_comm (fracT d) j] at hdm
    omega
  · rw [if_neg h1, if_pos (by omega)] at hr
    have hlt : F < fracT d := lt_of_div hT (by omega)
    have hL : blen F ≤ fb d := blen_le F (fb d) (by rw [← lT]; exact hlt)
    have hL1 := (blen_bounds F (by omega)).1
    obtain ⟨L, hLe⟩ : ∃ L, L = blen F := ⟨_, rfl⟩
    have hR : (raisedN C 127).mag = F * 2 ^ (128 - L) := by
      have h2 := (raised_mag (N := C) (p := 127) (by rw [← hr]; show F ≠ 0; omega) (by decide) (by rw [← hr]; show blen F ≤ _; omega)).1
      rw [h2, ← hr, hLe]
    have hX : (raisedN C 127).exp = 1 - bias d - fb d - (128 - (L : Int)) := by
      show C.exp - (((127 : Nat) : Int) + 1 - (blen C.mag : Int)) = _
      rw [← hr]; show (1 - bias d - fb d) - (((127 : Nat) : Int) + 1 - (blen F : Int)) = _
      rw [← hLe]; omega
    rw [← hLe] at hL hL1
    have e1 : F * 2 ^ (128 - L) = F * 2 ^ (fb d + 1 - L) * 2 ^ (127 - fracB d) := by
      rw [Nat.mul_assoc, ← Nat.pow_add]; congr 2; omega
    have hk : F * 2 ^ (fb d + 1 - L) < 2 * fracT d := by
      have hb := (blen_bounds F (by omega)).2.2
      rw [← hLe] at hb
      have h2 : F * 2 ^ (fb d + 1 - L) < 2 ^ L * 2 ^ (fb d + 1 - L) := Nat.mul_lt_mul_of_pos_right hb (Nat.two_pow_pos _)
      rw [← Nat.pow_add, show L + (fb d + 1 - L) = fracB d + 1 by omega, l2] at h2; exact h2
    obtain ⟨c1, c2⟩ := cut_exact rm C.minus (F * 2 ^ (fb d + 1 - L)) (127 - fracB d)
    obtain ⟨c3, c4⟩ := cut_exact rm C.minus F (128 - L)
    rw [← e1] at c1 c2
    unfold roundF roundX
    rw [hR, hX, show (raisedN C 127).minus = C.minus from rfl, c1]
    unfold roundY
    simp only
    have hn2 : 127 - fracB d + (1 - bias d - (1 - bias d - fb d - (128 - (L : Int)) + 127)).toNat = 128 - L := by omega
    rw [l2, Nat.div_eq_of_lt hk, if_neg (by omega), if_pos (by omega), hn2, c3, c4, if_pos rfl, hc]
theorem roundF_eq (d : Bool) (rm : Int) (N : Num) : roundF d rm N = roundX d rm N.minus (raisedN N 127).exp (raisedN N 127).mag := rfl
theorem round_val (d : Bool) (rm : Int) (N C : Num) (c : Nat) (h0 : N.mag ≠ 0) (hb : N.mag < 2 ^ 128) (he : -10000 ≤ N.exp) (hc : Flt d c C) (hC : C.mag ≠ 0 ∧ C.mag < 2 ^ 128 ∧ -10000 ≤ C.exp) (hv : val N = val C) (hm : N.minus = C.minus) : roundF d rm N = (c, 0) := by
  have b1 := blen_le _ _ hb
  have b2 := blen_le _ _ hC.2.1
  obtain ⟨-, r1, r2⟩ := raised_mag h0 (by decide : 127 ≤ 127) b1
  obtain ⟨-, s1, s2⟩ := raised_mag hC.1 (by decide : 127 ≤ 127) b2
  have v1 := val_raise h0 (by decide : 127 ≤ 127) b1 (by omega)
  have v2 := val_raise hC.1 (by decide : 127 ≤ 127) b2 (by omega)
  have n1 : (raisedN N 127).exp = N.exp - (((127 : Nat) : Int) + 1 - (blen N.mag : Int)) := rfl
  have n2 : (raisedN C 127).exp = C.exp - (((127 : Nat) : Int) + 1 - (blen C.mag : Int)) := rfl
  have e := val_inj r1 r2 s1 s2 (by omega) (by omega) (show val (raisedN N 127) = val (raisedN C 127) by rw [v1, v2, hv])
  have hi := round_id d rm C c hc
  rw [roundF_eq] at hi ⊢
  rw [e.1, e.2, hm]; exact hi
theorem pow_join (g k : Nat) (x y : Int) (h : y = x + k) (hx : -20000 ≤ x) : g * 2 ^ k * 2 ^ (x + 20000).toNat = g * 2 ^ (y + 20000).toNat := by
  rw [Nat.mul_assoc, ← Nat.pow_add]; congr 2; omega
theorem round_exact (d : Bool) (rm : Int) (N : Num) (h0 : N.mag ≠ 0) (hb : N.mag < 2 ^ 128) (he : -10000 ≤ N.exp) (hf : (roundF d rm N).2 = 0) :
    ∃ C, Flt d (roundF d rm N).1 C ∧ C.cls = 1 ∧ C.minus = N.minus ∧ val C = val N := by
  have b1 := blen_le _ _ hb
  obtain ⟨-, r1, r2⟩ := raised_mag h0 (by decide : 127 ≤ 127) b1
  have v1 := val_raise h0 (by decide : 127 ≤ 127) b1 (by omega)
  have n1 : (raisedN N 127).exp = N.exp - (((127 : Nat) : Int) + 1 - (blen N.mag : Int)) := rfl
  have hxl : -20000 ≤ (raisedN N 127).exp := by omega
  have hval : val N = (raisedN N 127).mag * 2 ^ ((raisedN N 127).exp + 20000).toNat := v1.symm
  obtain ⟨lf, lT, l2, l3, l4, l5, l6, l7⟩ := lay_facts d
  have hT : 0 < fracT d := by cases d <;> decide
  rw [roundF_eq] at hf ⊢
  rw [hval]
  clear hval v1 n1 b1
  generalize (raisedN N 127).mag = g at *
  generalize (raisedN N 127).exp = x at *
  generalize N.minus = m at *
  have hK : fracT d ≤ g / 2 ^ (127 - fracB d) ∧ g / 2 ^ (127 - fracB d) < 2 * fracT d := by
    refine ⟨?_, ?_⟩
    · rw [Nat.le_div_iff_mul_le (Nat.two_pow_pos _)]; exact Nat.le_trans (by cases d <;> decide) r1
    · rw [Nat.div_lt_iff_lt_mul (Nat.two_pow_pos _)]; exact Nat.lt_of_lt_of_le r2 (by cases d <;> decide)
  unfold roundX roundY at hf ⊢
  simp only at hf ⊢
  by_cases ho : bias d < x + 127 + ((cutK rm m g (127 - fracB d) / 2 ^ (fracB d + 1) : Nat) : Int)
  · rw [if_pos ho] at hf; exact absurd hf (show ¬ (5 : Int) = 0 by decide)
  rw [if_neg ho] at hf ⊢
  by_cases hs : x + 127 < 1 - bias d
  · rw [if_pos hs] at hf ⊢
    obtain ⟨n2, hn2⟩ : ∃ n2, n2 = 127 - fracB d + (1 - bias d - (x + 127)).toNat := ⟨_, rfl⟩
    rw [← hn2] at hf ⊢
    have hr : restV g n2 = 0 := by
      by_cases h : restV g n2 = 0
      · exact h
      · simp only [h, if_false] at hf; split at hf <;> simp at hf
    have hg := rest_ne hr
    have hdm := Nat.div_add_mod g (2 ^ n2)
    rw [hg, Nat.add_zero, Nat.mul_comm] at hdm
    obtain ⟨F, hF⟩ : ∃ F, F = g / 2 ^ n2 := ⟨_, rfl⟩
    rw [← hF] at hdm
    have hcut : cutK rm m g n2 = F := by rw [← hdm]; exact (cut_exact rm m F n2).1
    have hF0 : 0 < F := Nat.pos_of_ne_zero (fun h => by rw [h, Nat.zero_mul] at hdm; have := Nat.two_pow_pos 127; omega)
    have hFT : F < fracT d := by
      rw [hF, Nat.div_lt_iff_lt_mul (Nat.two_pow_pos _), lT, ← Nat.pow_add]
      exact Nat.lt_of_lt_of_le r2 (Nat.pow_le_pow_right (by decide) (by omega))
    have hFI : F < infB d := Nat.lt_trans hFT (by cases d <;> decide)
    have hrd := read_shape d m F hFI
    rw [if_neg (by rw [Nat.div_eq_of_lt hFT]; simp), if_pos (by omega)] at hrd
    rw [hcut]
    refine ⟨⟨1, m, 1 - bias d - fb d, F⟩, ⟨F, rfl, hF0, hFI, hrd⟩, rfl, rfl, ?_⟩
    show F * 2 ^ (1 - bias d - fb d + 20000).toNat = _
    rw [← hdm]
    exact (pow_join F n2 x (1 - bias d - fb d) (by omega) hxl).symm
  · rw [if_neg hs] at hf ⊢
    have hdf : diffV g (127 - fracB d) = false := by
      cases h : diffV g (127 - fracB d)
      · rfl
      · rw [h] at hf; simp at hf
    have hr : restV g (127 - fracB d) = 0 := by
      unfold diffV at hdf
      have := of_decide_eq_false hdf
      omega
    have hg := rest_ne hr
    have hdm := Nat.div_add_mod g (2 ^ (127 - fracB d))
    rw [hg, Nat.add_zero, Nat.mul_comm] at hdm
    obtain ⟨K, hKe⟩ : ∃ K, K = g / 2 ^ (127 - fracB d) := ⟨_, rfl⟩
    rw [← hKe] at hdm hK
    have hcut : cutK rm m g (127 - fracB d) = K := by rw [← hdm]; exact (cut_exact rm m K (127 - fracB d)).1
    rw [hcut, l2, Nat.div_eq_of_lt hK.2] at ho
    rw [hcut]
    obtain ⟨T, hTe⟩ : ∃ T, T = (x + 127 + (bias d - 1)).toNat := ⟨_, rfl⟩
    rw [← hTe]
    have hTb : (T : Int) = x + 127 + (bias d - 1) := by omega
    have hsp : T * fracT d + K = (K - fracT d) + fracT d * (T + 1) := by rw [Nat.mul_add, Nat.mul_comm (fracT d) T]; omega
    have hdiv : (T * fracT d + K) / fracT d = T + 1 := by rw [hsp, Nat.add_mul_div_left _ _ hT, Nat.div_eq_of_lt (by omega), Nat.zero_add]
    have hmod : (T * fracT d + K) % fracT d = K - fracT d := by rw [hsp, Nat.add_mul_mod_self_left]; exact Nat.mod_eq_of_lt (by omega)
    have hFI : T * fracT d + K < infB d := by
      have h1 : ((T * fracT d + K : Nat) : Int) < (infB d : Int) := by
        rw [l7]
        have h2 : ((T : Int) + 2) * (fracT d : Int) ≤ (2 * bias d + 1) * fracT d := Int.mul_le_mul_of_nonneg_right (by omega) (by omega)
        have h3 : ((T : Int) + 2) * (fracT d : Int) = ((T * fracT d : Nat) : Int) + 2 * fracT d := by rw [Int.add_mul, Int.natCast_mul]
        omega
      omega
    have hrd := read_shape d m _ hFI
    rw [hdiv, hmod, if_pos (by omega), show K - fracT d + fracT d = K by omega] at hrd
    refine ⟨_, ⟨T * fracT d + K, rfl, by omega, hFI, hrd⟩, rfl, rfl, ?_⟩
    show K * 2 ^ (((T + 1 : Nat) : Int) - bias d - fb d + 20000).toNat = _
    rw [← hdm]
    exact (pow_join K (127 - fracB d) x _ (by omega) hxl).symm
theorem flt_cls {d : Bool} {v : Nat} {C : Num} (h : Flt d v C) : C.cls = 1 := by
  obtain ⟨F, hv, h0, hI, hr⟩ := h
  rw [hv, read_shape d C.minus F hI] at hr
  split at hr
  · rw [← hr]
  · rw [if_pos (by omega)] at hr; rw [← hr]
theorem roundF_rnd (d : Bool) (rm : Int) (N : Num) (h0 : N.mag ≠ 0) (hb : N.mag < 2 ^ 128) : roundF d rm N = rnd d rm N.minus N.mag N.exp := by
  have b1 := blen_le _ _ hb
  obtain ⟨r0, r1, r2⟩ := raised_mag h0 (by decide : 127 ≤ 127) b1
  rw [roundF_eq, roundX_rnd d rm _ _ _ r1 r2, r0, rnd_scale d rm _ _ _ _ h0]
  congr 1
  show N.exp - (((127 : Nat) : Int) + 1 - (blen N.mag : Int)) + _ = _
  omega
end Go.Proofs.Yteinjalnkhfecaa.Q
