/- Swaps of numbers; what an insertion keeps. -/
namespace Go.Proofs.Ytibgdlianedcbaa
set_option linter.unusedVariables false
set_option linter.unusedSimpArgs false
def swp (X : Nat → Nat) (i j : Nat) : Nat → Nat := fun k => if k = i then X j else if k = j then X i else X k
/-- Reached by swaps of places from a on, below b. -/
inductive Sw (a b : Nat) (X : Nat → Nat) : (Nat → Nat) → Prop
  | refl : Sw a b X X
  | step (Y : Nat → Nat) (i j : Nat) : Sw a b X Y → a ≤ i → i < b → a ≤ j → j < b → Sw a b X (swp Y i j)
theorem Sw.trans {a b : Nat} {X Y Z : Nat → Nat} (h : Sw a b X Y) (k : Sw a b Y Z) : Sw a b X Z := by
  induction k with
  | refl => exact h
  | step Z i j _ h1 h2 h3 h4 ih => exact .step Z i j ih h1 h2 h3 h4
theorem Sw.mono {a b c d : Nat} {X Y : Nat → Nat} (h : Sw a b X Y) (h1 : c ≤ a) (h2 : b ≤ d) : Sw c d X Y := by
  induction h with
  | refl => exact .refl
  | step Z i j _ k1 k2 k3 k4 ih => exact .step Z i j ih (by omega) (by omega) (by omega) (by omega)
theorem Sw.out {a b : Nat} {X Y : Nat → Nat} (h : Sw a b X Y) : ∀ k, k < a ∨ b ≤ k → Y k = X k := by
  induction h with
  | refl => exact fun _ _ => rfl
  | step Z i j _ k1 k2 k3 k4 ih =>
    intro k hk
    unfold swp
    rw [if_neg (by omega), if_neg (by omega)]
    exact ih k hk
/-- What holds of all numbers holds of all behind swaps. -/
theorem Sw.all {a b : Nat} {X Y : Nat → Nat} (h : Sw a b X Y) (p : Nat → Prop) (hp : ∀ k, a ≤ k → k < b → p (X k)) : ∀ k, a ≤ k → k < b → p (Y k) := by
  induction h with
  | refl => exact hp
  | step Z i j _ k1 k2 k3 k4 ih =>
    intro k h1 h2
    unfold swp
    by_cases e : k = i
    · rw [if_pos e]; exact ih j k3 k4
    · rw [if_neg e]
      by_cases f : k = j
      · rw [if_pos f]; exact ih i k1 k2
      · rw [if_neg f]; exact ih k h1 h2
/-- How often a number stands below n. -/
def cntV (X : Nat → Nat) (v : Nat) : Nat → Nat
  | 0 => 0
  | n + 1 => cntV X v n + (if X n = v then 1 else 0)
theorem cntV_congr {X Y : Nat → Nat} (v : Nat) : ∀ n, (∀ k, k < n → X k = Y k) → cntV X v n = cntV Y v n
  | 0, _ => rfl
  | n + 1, h => by
    show cntV X v n + _ = cntV Y v n + _
    rw [cntV_congr v n (fun k hk => h k (by omega)), h n (by omega)]
theorem cntV_set (X : Nat → Nat) (v i x : Nat) : ∀ n, cntV (fun k => if k = i then x else X k) v n + (if i < n ∧ X i = v then 1 else 0) = cntV X v n + (if i < n ∧ x = v then 1 else 0)
  | 0 => by simp [cntV]
  | n + 1 => by
    have ih := cntV_set X v i x n
    show cntV _ v n + (if (if n = i then x else X n) = v then 1 else 0) + _ = cntV X v n + (if X n = v then 1 else 0) + _
    by_cases e : n = i
    · subst e
      rw [if_pos rfl]
      have z1 : (if n < n ∧ X n = v then 1 else 0) = 0 := if_neg (by omega)
      have z2 : (if n < n ∧ x = v then 1 else 0) = 0 := if_neg (by omega)
      have z3 : (if n < n + 1 ∧ X n = v then 1 else 0) = if X n = v then 1 else 0 := by
        by_cases c : X n = v
        · rw [if_pos c, if_pos ⟨by omega, c⟩]
        · rw [if_neg c, if_neg (fun h => c h.2)]
      have z4 : (if n < n + 1 ∧ x = v then 1 else 0) = if x = v then 1 else 0 := by
        by_cases c : x = v
        · rw [if_pos c, if_pos ⟨by omega, c⟩]
        · rw [if_neg c, if_neg (fun h => c h.2)]
      omega
    · rw [if_neg e]
      have z3 : (if i < n + 1 ∧ X i = v then 1 else 0) = if i < n ∧ X i = v then 1 else 0 := by
        by_cases c : i < n ∧ X i = v
        · rw [if_pos c, if_pos ⟨by omega, c.2⟩]
        · rw [if_neg c, if_neg (fun h => c ⟨by omega, h.2⟩)]
      have z4 : (if i < n + 1 ∧ x = v then 1 else 0) = if i < n ∧ x = v then 1 else 0 := by
        by_cases c : i < n ∧ x = v
        · rw [if_pos c, if_pos ⟨by omega, c.2⟩]
        · rw [if_neg c, if_neg (fun h => c ⟨by omega, h.2⟩)]
      omega
theorem cntV_swp (X : Nat → Nat) (i j v n : Nat) (hi : i < n) (hj : j < n) : cntV (swp X i j) v n = cntV X v n := by
  by_cases e : i = j
  · subst e
    refine cntV_congr v n (fun k _ => ?_)
    unfold swp
    by_cases c : k = i
    · rw [if_pos c, c]
    · rw [if_neg c, if_neg c]
  · have h1 := cntV_set X v j (X i) n
    have h2 := cntV_set (fun k => if k = j then X i else X k) v i (X j) n
    have h3 : cntV (swp X i j) v n = cntV (fun k => if k = i then X j else if k = j then X i else X k) v n := rfl
    rw [h3]
    have e1 : (if i = j then X i else X i) = X i := by rw [if_neg e]
    simp only [e1] at h2
    have q1 : (if i < n ∧ X i = v then 1 else 0) = if X i = v then 1 else 0 := by
      by_cases c : X i = v
      · rw [if_pos c, if_pos ⟨hi, c⟩]
      · rw [if_neg c, if_neg (fun h => c h.2)]
    have q2 : (if j < n ∧ X i = v then 1 else 0) = if X i = v then 1 else 0 := by
      by_cases c : X i = v
      · rw [if_pos c, if_pos ⟨hj, c⟩]
      · rw [if_neg c, if_neg (fun h => c h.2)]
    have q3 : (if j < n ∧ X j = v then 1 else 0) = if X j = v then 1 else 0 := by
      by_cases c : X j = v
      · rw [if_pos c, if_pos ⟨hj, c⟩]
      · rw [if_neg c, if_neg (fun h => c h.2)]
    have q4 : (if i < n ∧ X j = v then 1 else 0) = if X j = v then 1 else 0 := by
      by_cases c : X j = v
      · rw [if_pos c, if_pos ⟨hi, c⟩]
      · rw [if_neg c, if_neg (fun h => c h.2)]
    omega
theorem Sw.cnt {n : Nat} {X Y : Nat → Nat} (h : Sw 0 n X Y) (v : Nat) : cntV Y v n = cntV X v n := by
  induction h with
  | refl => rfl
  | step Z i j _ _ k2 _ k4 ih => rw [cntV_swp Z i j v n k2 k4]; exact ih
def Srt (X : Nat → Nat) (a b : Nat) : Prop := ∀ k l, a ≤ k → k < l → l < b → X k ≤ X l
/-- Two sorted rows in which each number stands as often are one. -/
theorem cntV_pos {X : Nat → Nat} {v : Nat} : ∀ {n : Nat}, 0 < cntV X v n → ∃ k, k < n ∧ X k = v
  | 0, h => by cases h
  | n + 1, h => by
    have h' : 0 < cntV X v n + (if X n = v then 1 else 0) := h
    by_cases c : X n = v
    · exact ⟨n, by omega, c⟩
    · rw [if_neg c] at h'
      obtain ⟨k, h1, h2⟩ := cntV_pos (n := n) (by omega)
      exact ⟨k, by omega, h2⟩
theorem cntV_mem {X : Nat → Nat} {n k : Nat} (h : k < n) : 0 < cntV X (X k) n := by
  induction n with
  | zero => cases h
  | succ n ih =>
    show 0 < cntV X (X k) n + (if X n = X k then 1 else 0)
    by_cases e : k = n
    · subst e; rw [if_pos rfl]; omega
    · have := ih (by omega); omega
theorem srt_unique {X Y : Nat → Nat} : ∀ n, Srt X 0 n → Srt Y 0 n → (∀ v, cntV X v n = cntV Y v n) → ∀ k, k < n → X k = Y k
  | 0, _, _, _, k, hk => by cases hk
  | n + 1, hX, hY, hc, k, hk => by
    have hXn : ∀ j, j < n + 1 → X j ≤ X n := fun j hj => by
      by_cases e : j = n
      · rw [e]; exact Nat.le_refl _
      · exact hX j n (by omega) (by omega) (by omega)
    have hYn : ∀ j, j < n + 1 → Y j ≤ Y n := fun j hj => by
      by_cases e : j = n
      · rw [e]; exact Nat.le_refl _
      · exact hY j n (by omega) (by omega) (by omega)
    have e1 : X n ≤ Y n := by
      have h1 := cntV_mem (X := X) (n := n + 1) (k := n) (by omega)
      rw [hc] at h1
      obtain ⟨j, hj, h2⟩ := cntV_pos h1
      rw [← h2]; exact hYn j hj
    have e2 : Y n ≤ X n := by
      have h1 := cntV_mem (X := Y) (n := n + 1) (k := n) (by omega)
      rw [← hc] at h1
      obtain ⟨j, hj, h2⟩ := cntV_pos h1
      rw [← h2]; exact hXn j hj
    have e : X n = Y n := Nat.le_antisymm e1 e2
    by_cases c : k = n
    · rw [c]; exact e
    · refine srt_unique n (fun a b h1 h2 h3 => hX a b h1 h2 (by omega)) (fun a b h1 h2 h3 => hY a b h1 h2 (by omega)) (fun v => ?_) k (by omega)
      have h := hc v
      have h' : cntV X v n + (if X n = v then 1 else 0) = cntV Y v n + (if Y n = v then 1 else 0) := h
      rw [e] at h'
      omega
/-- While one number goes down: all stand right but it. -/
def Down (X : Nat → Nat) (a i j : Nat) : Prop := ∀ k l, a ≤ k → k < l → l ≤ i → l ≠ j → X k ≤ X l
theorem Down.start {X : Nat → Nat} {a i : Nat} (h : Srt X a i) : Down X a i i := fun k l h1 h2 h3 h4 => h k l h1 h2 (by omega)
theorem Down.low {X : Nat → Nat} {a i : Nat} (h : Down X a i a) : Srt X a (i + 1) := fun k l h1 h2 h3 => h k l h1 h2 (by omega) (by omega)
theorem Down.stop {X : Nat → Nat} {a i j : Nat} (h : Down X a i j) (hj : a < j) (hji : j ≤ i) (hn : X (j - 1) ≤ X j) : Srt X a (i + 1) := by
  intro k l h1 h2 h3
  by_cases e : l = j
  · subst e
    by_cases f : k = l - 1
    · rw [f]; exact hn
    · exact Nat.le_trans (h k (l - 1) h1 (by omega) (by omega) (by omega)) hn
  · exact h k l h1 h2 (by omega) e
theorem Down.next {X : Nat → Nat} {a i j : Nat} (h : Down X a i j) (hj : a < j) (hji : j ≤ i) (hn : X j < X (j - 1)) : Down (swp X j (j - 1)) a i (j - 1) := by
  intro k l h1 h2 h3 h4
  unfold swp
  by_cases e : l = j
  · subst e
    rw [if_pos rfl]
    by_cases f : k = l - 1
    · rw [if_neg (by omega), if_pos f]; exact Nat.le_of_lt hn
    · rw [if_neg (by omega), if_neg f]; exact h k (l - 1) h1 (by omega) (by omega) (by omega)
  · rw [if_neg e, if_neg h4]
    by_cases f : k = j
    · rw [if_pos f]; exact h (j - 1) l (by omega) (by omega) h3 e
    · rw [if_neg f]
      by_cases g : k = j - 1
      · rw [if_pos g]; exact h j l (by omega) (by omega) h3 e
      · rw [if_neg g]; exact h k l h1 h2 h3 e
end Go.Proofs.Ytibgdlianedcbaa
