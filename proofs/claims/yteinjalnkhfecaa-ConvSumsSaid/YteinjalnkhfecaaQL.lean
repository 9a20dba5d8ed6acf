/- Taken from other texts: what is needed of them. -/
import Derived.Test.YteinjalnkhfecaaQM
import Derived.Test.YteinjalnkhfecaaQB
import Derived.Test.YteinjalnkhfecaaQC
import Derived.Test.YteinjalnkhfecaaQG
import Derived.Test.YteinjalnkhfecaaQK3
namespace Go.Proofs.Yteinjalnkhfecaa.Q
set_option linter.unusedVariables false
set_option linter.unusedSimpArgs false
def qrQ (X : Nat) (e p : Int) : Nat := if e ≤ p then X / 2 ^ (p - e).toNat else X * 2 ^ (e - p).toNat
def qrR (X : Nat) (e p : Int) : Int := if e ≤ p then restV X (p - e).toNat else 0
def cutQ (rm : Int) (m : Bool) (X : Nat) (e p : Int) : Nat := qrQ X e p + (if awayV rm m (qrQ X e p) (qrR X e p) then 1 else 0)
/-- The place of the highest bit. -/
def topB (X : Nat) (e : Int) : Int := (blen X : Int) + e - 1
/-- X times 2^e as a float. -/
def rnd (d : Bool) (rm : Int) (m : Bool) (X : Nat) (e : Int) : Nat × Int :=
  let c := cutQ rm m X e (topB X e - fb d) / 2 ^ (fb d + 1)
  if bias d < topB X e + c then (beyondV d rm m, 5)
  else if topB X e < 1 - bias d then (noughtV d m + cutQ rm m X e (1 - bias d - fb d), if qrR X e (1 - bias d - fb d) = 0 then 0 else if topB X e + c < 1 - bias d then 3 else 1)
  else (noughtV d m + ((topB X e + (bias d - 1)).toNat * fracT d + cutQ rm m X e (topB X e - fb d)), if qrR X e (topB X e - fb d) = 0 then 0 else 1)
/-- What is alike at the places that count is rounded alike. -/
theorem rnd_congr (d : Bool) (rm : Int) (m : Bool) (X Y : Nat) (e f : Int) (ht : topB X e = topB Y f)
    (hq : ∀ p, topB X e - fb d ≤ p → qrQ X e p = qrQ Y f p ∧ qrR X e p = qrR Y f p) : rnd d rm m X e = rnd d rm m Y f := by
  have h1 := hq (topB X e - fb d) (Int.le_refl _)
  have c1 : cutQ rm m X e (topB X e - fb d) = cutQ rm m Y f (topB Y f - fb d) := by unfold cutQ; rw [h1.1, h1.2, ht]
  unfold rnd
  simp only
  rw [c1]
  by_cases hs : topB X e < 1 - bias d
  · have h2 := hq (1 - bias d - fb d) (by omega)
    have c2 : cutQ rm m X e (1 - bias d - fb d) = cutQ rm m Y f (1 - bias d - fb d) := by unfold cutQ; rw [h2.1, h2.2]
    rw [c2, h2.2, ht]
    rw [ht] at hs
    rw [if_pos hs, if_pos hs]
  · rw [h1.2, ht]
    rw [ht] at hs
    rw [if_neg hs, if_neg hs]
theorem rest_scale (X n k : Nat) : restV (X * 2 ^ k) (n + k) = restV X n := by
  unfold restV
  rw [Nat.pow_add, Nat.mul_mod_mul_right]
  have hk : 0 < 2 ^ k := Nat.two_pow_pos k
  cases n with
  | zero => simp [Nat.mod_one]
  | succ n =>
    rw [show n + 1 + k - 1 = n + k by omega, Nat.add_sub_cancel, Nat.pow_add 2 n k]
    generalize X % 2 ^ (n + 1) = r
    generalize 2 ^ n = q
    generalize 2 ^ k = s at *
    have e1 : (r * s = 0) = (r = 0) := by rw [Nat.mul_eq_zero]; simp; omega
    have e2 : (r * s = q * s) = (r = q) := by rw [Nat.mul_right_cancel_iff hk]
    have e3 : (r * s < q * s) = (r < q) := by rw [Nat.mul_lt_mul_right hk]
    simp only [e1, e2, e3]
theorem qr_scale (X k : Nat) (e p : Int) : qrQ (X * 2 ^ k) e p = qrQ X (e + k) p ∧ qrR (X * 2 ^ k) e p = qrR X (e + k) p := by
  unfold qrQ qrR
  by_cases h1 : e + k ≤ p
  · rw [if_pos h1, if_pos (show e ≤ p by omega), if_pos h1, if_pos (show e ≤ p by omega)]
    obtain ⟨n, hn⟩ : ∃ n : Nat, n = (p - (e + k)).toNat := ⟨_, rfl⟩
    rw [← hn, show (p - e).toNat = n + k by omega]
    refine ⟨?_, rest_scale X n k⟩
    rw [Nat.pow_add, Nat.mul_div_mul_right _ _ (Nat.two_pow_pos k)]
  · rw [if_neg h1, if_neg h1]
    by_cases h2 : e ≤ p
    · rw [if_pos h2, if_pos h2]
      obtain ⟨n, hn⟩ : ∃ n : Nat, n = (p - e).toNat := ⟨_, rfl⟩
      rw [← hn, show (e + k - p).toNat = k - n by omega]
      have e1 : X * 2 ^ k = X * 2 ^ (k - n) * 2 ^ n := by rw [Nat.mul_assoc, ← Nat.pow_add]; congr 2; omega
      rw [e1]
      refine ⟨Nat.mul_div_cancel _ (Nat.two_pow_pos n), ?_⟩
      have := rest_scale (X * 2 ^ (k - n)) 0 n
      rw [Nat.zero_add] at this; rw [this]
      unfold restV; simp [Nat.mod_one]
    · rw [if_neg h2, if_neg h2]
      refine ⟨?_, rfl⟩
      rw [Nat.mul_assoc, ← Nat.pow_add]; congr 2; omega
theorem top_scale (X k : Nat) (e : Int) (h : X ≠ 0) : topB (X * 2 ^ k) e = topB X (e + k) := by
  unfold topB; rw [blen_mul_pow X k h]; omega
theorem rnd_scale (d : Bool) (rm : Int) (m : Bool) (X k : Nat) (e : Int) (h : X ≠ 0) : rnd d rm m (X * 2 ^ k) e = rnd d rm m X (e + k) :=
  rnd_congr d rm m _ _ _ _ (top_scale X k e h) (fun p _ => qr_scale X k e p)
theorem odd_div (y n : Nat) : (y * 2 + 1) / 2 ^ (n + 1) = y / 2 ^ n := by
  rw [Nat.pow_succ, Nat.mul_comm (2 ^ n), ← Nat.div_div_eq_div_mul]; congr 1; omega
theorem odd_mod (y n : Nat) : (y * 2 + 1) % 2 ^ (n + 1) = y % 2 ^ n * 2 + 1 := by
  have h1 := Nat.div_add_mod (y * 2 + 1) (2 ^ (n + 1))
  rw [odd_div] at h1
  have h2 := Nat.div_add_mod y (2 ^ n)
  rw [Nat.pow_succ] at h1 ⊢
  have e : 2 ^ n * 2 * (y / 2 ^ n) = 2 ^ n * (y / 2 ^ n) * 2 := by ac_rfl
  rw [e] at h1
  omega
theorem blen_div (X n : Nat) (h : n < blen X) : blen (X / 2 ^ n) = blen X - n := by
  have h0 : X ≠ 0 := by intro e; rw [e] at h; simp [blen] at h
  obtain ⟨a, b, c⟩ := blen_bounds X h0
  have p := Nat.two_pow_pos n
  have q1 : 2 ^ (blen X - 1 - n) ≤ X / 2 ^ n := by
    rw [Nat.le_div_iff_mul_le p, ← Nat.pow_add, show blen X - 1 - n + n = blen X - 1 by omega]; exact b
  have q2 : X / 2 ^ n < 2 ^ (blen X - 1 - n + 1) := by
    rw [Nat.div_lt_iff_lt_mul p, ← Nat.pow_add, show blen X - 1 - n + 1 + n = blen X by omega]; exact c
  have := Nat.two_pow_pos (blen X - 1 - n)
  rw [blen_of _ (blen X - 1 - n) (by omega) q1 q2]; omega
/-- The code's rounding is that. -/
theorem roundX_rnd (d : Bool) (rm : Int) (m : Bool) (x : Int) (g : Nat) (h1 : 2 ^ 127 ≤ g) (h2 : g < 2 ^ 128) : roundX d rm m x g = rnd d rm m g x := by
  have hb : blen g = 128 := blen_of g 127 (by intro e; subst e; exact absurd h1 (by decide)) h1 h2
  have ht : topB g x = x + 127 := by unfold topB; rw [hb]; omega
  obtain ⟨lf, -, -, l2, l3, l4, -, -⟩ := lay_facts d
  have c1 : ∀ p : Int, x ≤ p → cutQ rm m g x p = cutK rm m g (p - x).toNat ∧ qrR g x p = restV g (p - x).toNat := fun p hp => by
    unfold cutQ cutK qrQ qrR; rw [if_pos hp, if_pos hp]; exact ⟨rfl, rfl⟩
  unfold roundX roundY rnd
  simp only
  rw [ht, (c1 (x + 127 - fb d) (by omega)).1, (c1 (x + 127 - fb d) (by omega)).2, show (x + 127 - (fb d : Int) - x).toNat = 127 - fracB d by omega, lf]
  by_cases hs : x + 127 < 1 - bias d
  · rw [(c1 (1 - bias d - fb d) (by omega)).1, (c1 (1 - bias d - fb d) (by omega)).2, if_pos hs, if_pos hs, show (1 - bias d - (fb d : Int) - x).toNat = 127 - fb d + (1 - bias d - (x + 127)).toNat by omega]
  · rw [if_neg hs, if_neg hs]
    unfold diffV
    by_cases hr : restV g (127 - fb d) = 0
    · simp [hr]
    · simp [hr]
def upV (rm : Int) (m odd half rest : Bool) : Bool :=
  if rm = 0 then half && (rest || odd) else if rm = 2 then m && (half || rest) else if rm = 3 then !m && (half || rest) else if rm = 4 then half else false
def cutR (rm : Int) (m : Bool) (M : Nat) (b : Int) (more : Bool) : Nat × Bool :=
  if b ≤ 0 then (M * 2 ^ (-b).toNat, !more)
  else (M / 2 ^ b.toNat + (if upV rm m (decide (bitN (M / 2 ^ b.toNat) 0 = 1)) (decide (bitN M (b.toNat - 1) = 1)) (!decide (M % 2 ^ (b.toNat - 1) = 0) || more) then 1 else 0), decide (M % 2 ^ b.toNat = 0) && !more)
/-- With something beyond, or without. -/
def Bey (M : Nat) (E : Int) (more : Bool) (X : Nat) (e : Int) : Prop := more = false ∧ X = M ∧ e = E ∨ more = true ∧ X = M * 2 + 1 ∧ e = E - 1
theorem up_away0 (rm : Int) (m : Bool) (k : Nat) (half rest : Bool) (r : Int)
    (h0 : half = false → rest = false → r = 0) (h1 : half = false → rest = true → r = 1) (h2 : half = true → rest = false → r = 2) (h3 : half = true → rest = true → r = 3) :
    awayV rm m k r = upV rm m (decide (k % 2 = 1)) half rest := by
  unfold awayV upV
  cases half <;> cases rest
  · rw [h0 rfl rfl]; by_cases a : rm = 0 <;> by_cases b : rm = 2 <;> by_cases c : rm = 3 <;> by_cases d : rm = 4 <;> simp [a, b, c, d]
  · rw [h1 rfl rfl]; by_cases a : rm = 0 <;> by_cases b : rm = 2 <;> by_cases c : rm = 3 <;> by_cases d : rm = 4 <;> simp [a, b, c, d]
  · rw [h2 rfl rfl]; by_cases a : rm = 0 <;> by_cases b : rm = 2 <;> by_cases c : rm = 3 <;> by_cases d : rm = 4 <;> simp [a, b, c, d]
  · rw [h3 rfl rfl]; by_cases a : rm = 0 <;> by_cases b : rm = 2 <;> by_cases c : rm = 3 <;> by_cases d : rm = 4 <;> simp [a, b, c, d]
theorem half_split (X n : Nat) : X % 2 ^ (n + 1) = bitN X n * 2 ^ n + X % 2 ^ n := by
  unfold bitN
  rw [Nat.pow_succ, Nat.mod_mul, Nat.mul_comm, Nat.add_comm]
theorem rest_half (X n : Nat) : restV X (n + 1) = if bitN X n = 1 then (if X % 2 ^ n = 0 then 2 else 3) else (if X % 2 ^ n = 0 then 0 else 1) := by
  unfold restV
  rw [half_split, Nat.add_sub_cancel]
  have hb : bitN X n = 0 ∨ bitN X n = 1 := by unfold bitN; omega
  have hl : X % 2 ^ n < 2 ^ n := Nat.mod_lt _ (Nat.two_pow_pos n)
  generalize X % 2 ^ n = r at *
  generalize 2 ^ n = q at *
  rcases hb with hb | hb <;> rw [hb]
  · rw [if_neg (by decide : ¬ (0 : Nat) = 1), Nat.zero_mul, Nat.zero_add]
    by_cases h : r = 0
    · rw [if_pos h, if_pos h]
    · rw [if_neg h, if_neg h, if_neg (by omega), if_pos hl]
  · rw [if_pos rfl, Nat.one_mul]
    by_cases h : r = 0
    · rw [if_pos h, if_neg (by omega), if_pos (by omega)]
    · rw [if_neg h, if_neg (by omega), if_neg (by omega), if_neg (by omega)]
theorem bit_zero (X : Nat) : bitN X 0 = X % 2 := by unfold bitN; rw [Nat.pow_zero, Nat.div_one]
theorem cutR_cutQ (rm : Int) (m : Bool) (M : Nat) (E : Int) (more : Bool) (X : Nat) (e p b : Int) (h : Bey M E more X e) (hb : b = p - E) (h1 : more = true → 1 ≤ b) :
    cutR rm m M b more = (cutQ rm m X e p, decide (qrR X e p = 0)) := by
  subst hb
  unfold cutR
  rcases h with ⟨rfl, rfl, rfl⟩ | ⟨rfl, rfl, rfl⟩
  · by_cases hp : p - e ≤ 0
    · rw [if_pos hp]
      have hq : qrQ X e p = X * 2 ^ (-(p - e)).toNat ∧ qrR X e p = 0 := by
        unfold qrQ qrR
        by_cases h2 : e ≤ p
        · rw [if_pos h2, if_pos h2, show (p - e).toNat = 0 by omega, show (-(p - e)).toNat = 0 by omega]; simp [restV, Nat.mod_one]
        · rw [if_neg h2, if_neg h2, show (e - p).toNat = (-(p - e)).toNat by omega]; exact ⟨rfl, rfl⟩
      unfold cutQ
      rw [hq.1, hq.2, away_exact]; simp
    · rw [if_neg hp]
      obtain ⟨n, hn⟩ : ∃ n : Nat, (p - e).toNat = n + 1 := ⟨(p - e).toNat - 1, by omega⟩
      have hq : qrQ X e p = X / 2 ^ (n + 1) ∧ qrR X e p = restV X (n + 1) := by
        unfold qrQ qrR; rw [if_pos (by omega), if_pos (by omega), hn]; exact ⟨rfl, rfl⟩
      unfold cutQ
      rw [hq.1, hq.2, hn, Nat.add_sub_cancel, bit_zero]
      have hr := rest_half X n
      have hz : (X % 2 ^ (n + 1) = 0) ↔ restV X (n + 1) = 0 := by
        constructor
        · exact rest_zero
        · exact rest_ne
      rw [up_away0 rm m (X / 2 ^ (n + 1)) (decide (bitN X n = 1)) (!decide (X % 2 ^ n = 0) || false) (restV X (n + 1))
        (by intro a b; simp at a b; rw [hr, if_neg a, if_pos b]) (by intro a b; simp at a b; rw [hr, if_neg a, if_neg b])
        (by intro a b; simp at a b; rw [hr, if_pos a, if_pos b]) (by intro a b; simp at a b; rw [hr, if_pos a, if_neg b])]
      congr 1
      simp [hz]
  · have h1' := h1 rfl
    rw [if_neg (by omega)]
    obtain ⟨n, hn⟩ : ∃ n : Nat, (p - E).toNat = n + 1 := ⟨(p - E).toNat - 1, by omega⟩
    have hq : qrQ (M * 2 + 1) (E - 1) p = M / 2 ^ (n + 1) ∧ qrR (M * 2 + 1) (E - 1) p = restV (M * 2 + 1) (n + 1 + 1) := by
      unfold qrQ qrR; rw [if_pos (by omega), if_pos (by omega), show (p - (E - 1)).toNat = n + 1 + 1 by omega, odd_div]; exact ⟨rfl, rfl⟩
    have hm := odd_mod M n
    have hbit : bitN (M * 2 + 1) (n + 1) = bitN M n := by unfold bitN; rw [odd_div]
    have hr := rest_half (M * 2 + 1) (n + 1)
    rw [hm, hbit] at hr
    have hnz : ¬ (M % 2 ^ n * 2 + 1 = 0) := by omega
    simp only [hnz, if_false] at hr
    unfold cutQ
    rw [hq.1, hq.2, hn, Nat.add_sub_cancel, bit_zero]
    rw [up_away0 rm m (M / 2 ^ (n + 1)) (decide (bitN M n = 1)) (!decide (M % 2 ^ n = 0) || true) (restV (M * 2 + 1) (n + 1 + 1))
      (by intro a b; simp at b) (by intro a b; simp at a; rw [hr, if_neg a])
      (by intro a b; simp at b) (by intro a b; simp at a; rw [hr, if_pos a])]
    congr 1
    rw [hr]
    by_cases hb : bitN M n = 1 <;> simp [hb]
/-- The document's Round, as it is written. -/
def roundR (d : Bool) (rm : Int) (m : Bool) (M : Nat) (E : Int) (more : Bool) : Nat × Int :=
  let least := 1 - bias d - fb d
  let top := (blen M : Int) + E
  let last := max (top - fb d - 1) least
  let c := cutR rm m M (last - E) more
  let m1 := if fb d + 1 < blen c.1 then c.1 / 2 else c.1
  let last1 := if fb d + 1 < blen c.1 then last + 1 else last
  let flag : Int := if c.2 then 0 else if top - fb d - 1 < least ∧ (blen (cutR rm m M (top - fb d - 1 - E) more).1 : Int) + top - fb d - 1 < least + fb d + 1 then 3 else 1
  if bias d < last1 + fb d ∧ blen m1 = fb d + 1 then (if rm = 1 ∨ rm = 2 ∧ m = false ∨ rm = 3 ∧ m = true then infV d m - 1 else infV d m, 5)
  else (noughtV d m + (if blen m1 = fb d + 1 then m1 - fracT d + (last1 - least + 1).toNat * fracT d else m1), flag)
theorem beyond_eq (d : Bool) (rm : Int) (m : Bool) (h : 0 ≤ rm ∧ rm ≤ 4) : beyondV d rm m = if rm = 1 ∨ rm = 2 ∧ m = false ∨ rm = 3 ∧ m = true then infV d m - 1 else infV d m := by
  unfold beyondV awayV
  have : rm = 0 ∨ rm = 1 ∨ rm = 2 ∨ rm = 3 ∨ rm = 4 := by omega
  rcases this with rfl | rfl | rfl | rfl | rfl <;> cases m <;> simp
theorem blen_pow (k : Nat) : blen (2 ^ k) = k + 1 := blen_of _ k (by have := Nat.two_pow_pos k; omega) (Nat.le_refl _) (Nat.pow_lt_pow_right (by decide) (by omega))
theorem qrQ_bounds (X : Nat) (e p : Int) (h0 : X ≠ 0) (h : p ≤ topB X e) : 2 ^ (topB X e - p).toNat ≤ qrQ X e p ∧ qrQ X e p < 2 ^ ((topB X e - p).toNat + 1) := by
  obtain ⟨a, b, c⟩ := blen_bounds X h0
  unfold topB at h ⊢
  unfold qrQ
  by_cases h1 : e ≤ p
  · rw [if_pos h1]
    have hp := Nat.two_pow_pos (p - e).toNat
    rw [Nat.le_div_iff_mul_le hp, Nat.div_lt_iff_lt_mul hp, ← Nat.pow_add, ← Nat.pow_add, show ((blen X : Int) + e - 1 - p).toNat + (p - e).toNat = blen X - 1 by omega,
      show ((blen X : Int) + e - 1 - p).toNat + 1 + (p - e).toNat = blen X by omega]
    exact ⟨b, c⟩
  · rw [if_neg h1]
    rw [show ((blen X : Int) + e - 1 - p).toNat = blen X - 1 + (e - p).toNat by omega, show blen X - 1 + (e - p).toNat + 1 = blen X + (e - p).toNat by omega, Nat.pow_add, Nat.pow_add]
    exact ⟨Nat.mul_le_mul_right _ b, Nat.mul_lt_mul_of_pos_right c (Nat.two_pow_pos _)⟩
theorem qrQ_small (X : Nat) (e p : Int) (h0 : X ≠ 0) (n : Nat) (h : topB X e < p + n) : qrQ X e p < 2 ^ n := by
  by_cases hp : p ≤ topB X e
  · exact Nat.lt_of_lt_of_le (qrQ_bounds X e p h0 hp).2 (Nat.pow_le_pow_right (by decide) (by omega))
  · obtain ⟨a, b, c⟩ := blen_bounds X h0
    unfold topB at hp
    unfold qrQ
    rw [if_pos (by omega), Nat.div_eq_of_lt (Nat.lt_of_lt_of_le c (Nat.pow_le_pow_right (by decide) (by omega)))]
    exact Nat.two_pow_pos n
theorem cutQ_bd (rm : Int) (m : Bool) (X : Nat) (e p : Int) : qrQ X e p ≤ cutQ rm m X e p ∧ cutQ rm m X e p ≤ qrQ X e p + 1 := by
  unfold cutQ; split <;> omega
/-- The document's rounding is the code's. -/
theorem roundR_rnd (d : Bool) (rm : Int) (m : Bool) (M : Nat) (E : Int) (more : Bool) (X : Nat) (e : Int) (h : Bey M E more X e) (h0 : M ≠ 0) (hm : more = true → fb d + 2 ≤ blen M) (hr : 0 ≤ rm ∧ rm ≤ 4) :
    roundR d rm m M E more = rnd d rm m X e := by
  have hX : X ≠ 0 := by rcases h with ⟨-, rfl, -⟩ | ⟨-, rfl, -⟩ <;> omega
  have ht : (blen M : Int) + E = topB X e + 1 := by
    unfold topB
    rcases h with ⟨-, rfl, rfl⟩ | ⟨-, rfl, rfl⟩
    · omega
    · obtain ⟨a, b, c⟩ := blen_bounds M h0
      have : blen (M * 2 + 1) = blen M + 1 := by
        obtain ⟨k, hk⟩ : ∃ k, blen M = k + 1 := ⟨blen M - 1, by omega⟩
        rw [hk] at b c ⊢
        rw [Nat.add_sub_cancel] at b
        exact blen_of _ (k + 1) (by omega) (by rw [Nat.pow_succ]; omega) (by rw [Nat.pow_succ]; omega)
      omega
  obtain ⟨-, lT, -, l2, l3, l4, l5, -⟩ := lay_facts d
  have hT : 0 < fracT d := by rw [lT]; exact Nat.two_pow_pos _
  have hT2 : 2 ^ (fb d + 1) = 2 * fracT d := by rw [Nat.pow_succ, lT]; omega
  have p1 : (blen M : Int) + E - fb d - 1 = topB X e - fb d := by omega
  have c1 := cutR_cutQ rm m M E more X e (topB X e - fb d) (topB X e - fb d - E) h rfl (fun hh => by have := hm hh; omega)
  have b1 := qrQ_bounds X e (topB X e - fb d) hX (by omega)
  have b2 := cutQ_bd rm m X e (topB X e - fb d)
  rw [show (topB X e - (topB X e - (fb d : Int))).toNat = fb d by omega, hT2, ← lT] at b1
  have hbl : ∀ k, fracT d ≤ k → k ≤ 2 * fracT d → blen k = fb d + 1 + k / 2 ^ (fb d + 1) := fun k k1 k2 => by
    by_cases hk : k = 2 * fracT d
    · rw [hk, hT2, Nat.div_self (by omega), ← hT2, blen_pow]
    · rw [hT2, Nat.div_eq_of_lt (by omega), Nat.add_zero]
      exact blen_of k (fb d) (by omega) (by rw [← lT]; exact k1) (by rw [hT2]; omega)
  have hk1 := hbl (cutQ rm m X e (topB X e - fb d)) (by omega) (by omega)
  unfold roundR rnd
  simp only
  rw [p1, ht, c1]
  by_cases hs : topB X e < 1 - bias d
  · have hmax : max (topB X e - fb d) (1 - bias d - fb d) = 1 - bias d - fb d := Int.max_eq_right (by omega)
    have c2 := cutR_cutQ rm m M E more X e (1 - bias d - fb d) (1 - bias d - fb d - E) h rfl (fun hh => by have := hm hh; omega)
    have s1 := qrQ_small X e (1 - bias d - fb d) hX (fb d) (by omega)
    have s2 := cutQ_bd rm m X e (1 - bias d - fb d)
    rw [← lT] at s1
    rw [hmax, c2]
    simp only
    generalize cutQ rm m X e (1 - bias d - fb d) = k at *
    have hkb : ¬ fb d + 1 < blen k := by
      have := blen_le k (fb d + 1) (by rw [hT2]; omega); omega
    have ho : ¬ (bias d < 1 - bias d - (fb d : Int) + fb d ∧ blen k = fb d + 1) := by omega
    rw [if_neg hkb, if_neg hkb, if_neg ho, if_pos hs]
    have hc : cutQ rm m X e (topB X e - fb d) / 2 ^ (fb d + 1) ≤ 1 := by rw [hT2, Nat.div_le_iff_le_mul_add_pred (by omega)]; omega
    have ho2 : ¬ bias d < topB X e + ((cutQ rm m X e (topB X e - fb d) / 2 ^ (fb d + 1) : Nat) : Int) := by omega
    rw [if_neg ho2]
    have hv : (if blen k = fb d + 1 then k - fracT d + (1 - bias d - ↑(fb d) - (1 - bias d - ↑(fb d)) + 1).toNat * fracT d else k) = k := by
      by_cases hb : blen k = fb d + 1
      · have hk0 : k ≠ 0 := by intro e0; rw [e0] at hb; simp [blen] at hb
        have := (blen_bounds k hk0).2.1
        rw [hb, Nat.add_sub_cancel, ← lT] at this
        rw [if_pos hb, show (1 - bias d - ↑(fb d) - (1 - bias d - ↑(fb d)) + 1).toNat = 1 by omega]; omega
      · rw [if_neg hb]
    rw [hv]
    congr 1
    by_cases hz : qrR X e (1 - bias d - fb d) = 0
    · simp [hz]
    · simp only [hz, decide_false, Bool.false_eq_true, if_false]
      rw [hk1]
      by_cases hcc : topB X e + ((cutQ rm m X e (topB X e - fb d) / 2 ^ (fb d + 1) : Nat) : Int) < 1 - bias d
      · rw [if_pos hcc, if_pos ⟨by omega, by omega⟩]
      · rw [if_neg hcc, if_neg (by intro hh; omega)]
  · have hmax : max (topB X e - fb d) (1 - bias d - fb d) = topB X e - fb d := Int.max_eq_left (by omega)
    rw [hmax, c1]
    simp only
    rw [if_neg hs]
    have hc : cutQ rm m X e (topB X e - fb d) / 2 ^ (fb d + 1) = 0 ∧ cutQ rm m X e (topB X e - fb d) < 2 * fracT d ∨ cutQ rm m X e (topB X e - fb d) / 2 ^ (fb d + 1) = 1 ∧ cutQ rm m X e (topB X e - fb d) = 2 * fracT d := by
      rw [hT2]
      by_cases hk : cutQ rm m X e (topB X e - fb d) = 2 * fracT d
      · right; rw [hk, Nat.div_self (by omega)]; exact ⟨rfl, rfl⟩
      · left; exact ⟨Nat.div_eq_of_lt (by omega), by omega⟩
    generalize cutQ rm m X e (topB X e - fb d) = k at *
    have hfl : ∀ (A B : Int), (if (decide (qrR X e (topB X e - ↑(fb d)) = 0)) = true then (0 : Int) else if topB X e - ↑(fb d) < 1 - bias d - ↑(fb d) ∧ A < B then 3 else 1) = if qrR X e (topB X e - ↑(fb d)) = 0 then 0 else 1 := fun A B => by
      simp only [decide_eq_true_eq]
      congr 1
      exact if_neg (by omega)
    rw [hfl]
    rcases hc with ⟨hc, hk⟩ | ⟨hc, hk⟩
    · rw [hc] at hk1 ⊢
      have hb1 : ¬ fb d + 1 < blen k := by omega
      have hb2 : blen k = fb d + 1 := by omega
      rw [if_neg hb1, if_neg hb1]
      by_cases ho : bias d < topB X e + ((0 : Nat) : Int)
      · have ho2 : bias d < topB X e - (fb d : Int) + fb d ∧ blen k = fb d + 1 := ⟨by omega, hb2⟩
        rw [if_pos ho, if_pos ho2, beyond_eq d rm m hr]
      · have ho2 : ¬ (bias d < topB X e - (fb d : Int) + fb d ∧ blen k = fb d + 1) := by omega
        rw [if_neg ho, if_neg ho2, if_pos hb2]
        congr 2
        rw [show (topB X e - ↑(fb d) - (1 - bias d - ↑(fb d)) + 1).toNat = (topB X e + (bias d - 1)).toNat + 1 by omega, Nat.add_mul]; omega
    · rw [hc] at hk1 ⊢
      have hb1 : fb d + 1 < blen k := by omega
      rw [if_pos hb1, if_pos hb1]
      have hk2 : k / 2 = fracT d := by omega
      rw [hk2, lT, blen_pow, ← lT]
      by_cases ho : bias d < topB X e + ((1 : Nat) : Int)
      · have ho2 : bias d < topB X e - (fb d : Int) + 1 + fb d ∧ fb d + 1 = fb d + 1 := ⟨by omega, rfl⟩
        rw [if_pos ho, if_pos ho2, beyond_eq d rm m hr]
      · have ho2 : ¬ (bias d < topB X e - (fb d : Int) + 1 + fb d ∧ fb d + 1 = fb d + 1) := by omega
        rw [if_neg ho, if_neg ho2, if_pos rfl]
        congr 2
        rw [show (topB X e - ↑(fb d) + 1 - (1 - bias d - ↑(fb d)) + 1).toNat = (topB X e + (bias d - 1)).toNat + 2 by omega, Nat.add_mul]; omega
def ofM (d : Bool) (a : Nat) : Nat := if a / fracT d % expT d = 0 then a % fracT d else a % fracT d + fracT d
def ofE (d : Bool) (a : Nat) : Int := (if a / fracT d % expT d = 0 then 1 else ((a / fracT d % expT d : Nat) : Int)) - bias d - fb d
end Go.Proofs.Yteinjalnkhfecaa.Q
