/- Heaps of numbers. -/
import Derived.Test.YtibgdlianedcbaaN1
namespace Go.Proofs.Ytibgdlianedcbaa
set_option linter.unusedVariables false
set_option linter.unusedSimpArgs false
/-- From the place lo on, no child is greater than its parent; the places count from f. -/
def Heap (X : Nat → Nat) (f lo hi : Nat) : Prop := ∀ i c, lo ≤ i → (c = 2 * i + 1 ∨ c = 2 * i + 2) → c < hi → X (f + c) ≤ X (f + i)
/-- .. but at r, whose children are no greater than its parent. -/
def Sift (X : Nat → Nat) (f lo hi r : Nat) : Prop := lo ≤ r ∧ (∀ i c, lo ≤ i → i ≠ r → (c = 2 * i + 1 ∨ c = 2 * i + 2) → c < hi → X (f + c) ≤ X (f + i)) ∧
  ∀ p c, lo ≤ p → (r = 2 * p + 1 ∨ r = 2 * p + 2) → (c = 2 * r + 1 ∨ c = 2 * r + 2) → c < hi → X (f + c) ≤ X (f + p)
theorem Sift.start {X : Nat → Nat} {f lo hi : Nat} (h : Heap X f (lo + 1) hi) : Sift X f lo hi lo :=
  ⟨Nat.le_refl _, fun i c h1 h2 h3 h4 => h i c (by omega) h3 h4, fun p c h1 h2 _ _ => by omega⟩
theorem Sift.leaf {X : Nat → Nat} {f lo hi r : Nat} (h : Sift X f lo hi r) (hr : hi ≤ 2 * r + 1) : Heap X f lo hi := by
  intro i c h1 h2 h3
  by_cases e : i = r
  · subst e; omega
  · exact h.2.1 i c h1 e h2 h3
theorem Sift.stop {X : Nat → Nat} {f lo hi r c : Nat} (h : Sift X f lo hi r) (hc : c = 2 * r + 1 ∨ c = 2 * r + 2) (hm : ∀ d, (d = 2 * r + 1 ∨ d = 2 * r + 2) → d < hi → X (f + d) ≤ X (f + c)) (hn : X (f + c) ≤ X (f + r)) : Heap X f lo hi := by
  intro i d h1 h2 h3
  by_cases e : i = r
  · subst e; exact Nat.le_trans (hm d h2 h3) hn
  · exact h.2.1 i d h1 e h2 h3
theorem Sift.next {X : Nat → Nat} {f lo hi r c : Nat} (h : Sift X f lo hi r) (hc : c = 2 * r + 1 ∨ c = 2 * r + 2) (hch : c < hi) (hm : ∀ d, (d = 2 * r + 1 ∨ d = 2 * r + 2) → d < hi → X (f + d) ≤ X (f + c)) (hn : X (f + r) < X (f + c)) :
    Sift (swp X (f + r) (f + c)) f lo hi c := by
  obtain ⟨h1, h2, h3⟩ := h
  have sr : swp X (f + r) (f + c) (f + r) = X (f + c) := by unfold swp; rw [if_pos rfl]
  have sc : swp X (f + r) (f + c) (f + c) = X (f + r) := by unfold swp; rw [if_neg (by omega), if_pos rfl]
  have so : ∀ k, k ≠ r → k ≠ c → swp X (f + r) (f + c) (f + k) = X (f + k) := fun k a b => by unfold swp; rw [if_neg (by omega), if_neg (by omega)]
  refine ⟨by omega, fun i d a b e g => ?_, fun p d a b e g => ?_⟩
  · by_cases ei : i = r
    · subst ei
      rw [sr]
      by_cases ed : d = c
      · rw [ed, sc]; omega
      · rw [so d (by omega) ed]; exact hm d e g
    · rw [so i ei b]
      by_cases ed : d = r
      · subst ed
        rw [sr]
        exact h3 i c a e hc hch
      · rw [so d ed (by omega)]
        exact h2 i d a ei e g
  · obtain rfl : p = r := by omega
    rw [sr, so d (by omega) (by omega)]
    exact h2 c d (by omega) (by omega) e g
theorem heap_top {X : Nat → Nat} {f hi : Nat} (h : Heap X f 0 hi) : ∀ k, k < hi → X (f + k) ≤ X f := by
  intro k
  induction k using Nat.strongRecOn with
  | _ k ih =>
    intro hk
    by_cases e : k = 0
    · subst e; exact Nat.le_refl _
    · have h1 := h ((k - 1) / 2) k (Nat.zero_le _) (by omega) hk
      exact Nat.le_trans h1 (ih _ (by omega) (by omega))
theorem heap_none (X : Nat → Nat) (f lo hi : Nat) (h : hi ≤ 2 * lo + 1) : Heap X f lo hi := fun i c h1 h2 h3 => by omega
/-- From i on all stand right, and nothing ahead is greater. -/
def Tail (X : Nat → Nat) (f i hi : Nat) : Prop := ∀ j k, j < k → i ≤ k → k < hi → X (f + j) ≤ X (f + k)
theorem tail_none (X : Nat → Nat) (f hi : Nat) : Tail X f hi hi := fun j k _ h2 h3 => by omega
theorem tail_all {X : Nat → Nat} {f hi : Nat} (h : Tail X f 0 hi) : Srt X f (f + hi) := fun k l h1 h2 h3 => by
  have := h (k - f) (l - f) (by omega) (Nat.zero_le _) (by omega)
  rwa [show f + (k - f) = k by omega, show f + (l - f) = l by omega] at this
theorem heap_less {X : Nat → Nat} {f lo hi hi' : Nat} (h : Heap X f lo hi) (h' : hi' ≤ hi) : Heap X f lo hi' := fun i c h1 h2 h3 => h i c h1 h2 (by omega)
/-- The top goes behind; what is ahead is put right by swaps: the tail has grown. -/
theorem tail_step {X Y : Nat → Nat} {f i hi : Nat} (hi' : i < hi) (hp : Heap X f 0 (i + 1)) (ht : Tail X f (i + 1) hi) (hs : Sw f (f + i) (swp X f (f + i)) Y) : Tail Y f i hi := by
  have s0 : ∀ k, k < i → swp X f (f + i) (f + k) ≤ X f := fun k hk => by
    unfold swp
    by_cases e : k = 0
    · subst e; rw [if_pos (by omega)]; exact heap_top hp i (by omega)
    · rw [if_neg (by omega), if_neg (by omega)]; exact heap_top hp k (by omega)
  have si : swp X f (f + i) (f + i) = X f := by
    unfold swp
    by_cases e : i = 0
    · subst e; rw [if_pos (by omega)]; rfl
    · rw [if_neg (by omega), if_pos rfl]
  have y0 : ∀ k, k < i → Y (f + k) ≤ X f := fun k hk => hs.all (fun v => v ≤ X f) (fun q h1 h2 => by
    have := s0 (q - f) (by omega)
    rwa [show f + (q - f) = q by omega] at this) (f + k) (by omega) (by omega)
  have yi : Y (f + i) = X f := by rw [hs.out (f + i) (Or.inr (Nat.le_refl _)), si]
  have yk : ∀ k, i < k → Y (f + k) = X (f + k) := fun k hk => by
    rw [hs.out (f + k) (by omega)]
    unfold swp
    rw [if_neg (by omega), if_neg (by omega)]
  intro j k h1 h2 h3
  by_cases e : k = i
  · subst e
    rw [yi]; exact y0 j h1
  · have hk : i < k := by omega
    rw [yk k hk]
    have hX : ∀ q, q ≤ i → X (f + q) ≤ X (f + k) := fun q hq => ht q k (by omega) (by omega) h3
    by_cases c : j < i
    · exact Nat.le_trans (y0 j c) (hX 0 (by omega))
    · by_cases d : j = i
      · rw [d, yi]; exact hX 0 (by omega)
      · rw [yk j (by omega)]; exact ht j k h1 (by omega) h3
end Go.Proofs.Ytibgdlianedcbaa
