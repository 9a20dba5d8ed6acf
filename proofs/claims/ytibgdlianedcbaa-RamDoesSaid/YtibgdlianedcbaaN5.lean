/- What stands right outside of the part that is still to be sorted. -/
import Derived.Test.YtibgdlianedcbaaN1
namespace Go.Proofs.Ytibgdlianedcbaa
set_option linter.unusedVariables false
set_option linter.unusedSimpArgs false
def Out (Y : Nat → Nat) (a0 b0 a b : Nat) : Prop := a0 ≤ a ∧ a ≤ b ∧ b ≤ b0 ∧ ∀ k l, a0 ≤ k → k < l → l < b0 → (k < a ∨ b ≤ l) → Y k ≤ Y l
theorem out_start (Y : Nat → Nat) {a0 b0 : Nat} (h : a0 ≤ b0) : Out Y a0 b0 a0 b0 := ⟨Nat.le_refl _, h, Nat.le_refl _, fun k l h1 h2 h3 h4 => by omega⟩
theorem out_sw {Y Z : Nat → Nat} {a0 b0 a b : Nat} (h : Out Y a0 b0 a b) (hs : Sw a b Y Z) : Out Z a0 b0 a b := by
  refine ⟨h.1, h.2.1, h.2.2.1, fun k l h1 h2 h3 h4 => ?_⟩
  rcases h4 with h4 | h4
  · rw [hs.out k (Or.inl h4)]
    by_cases e : l < a ∨ b ≤ l
    · rw [hs.out l e]; exact h.2.2.2 k l h1 h2 h3 (Or.inl h4)
    · exact hs.all (fun v => Y k ≤ v) (fun j j1 j2 => h.2.2.2 k j h1 (by omega) (by have := h.2.2.1; omega) (Or.inl h4)) l (by omega) (by omega)
  · rw [hs.out l (Or.inr h4)]
    by_cases e : k < a ∨ b ≤ k
    · rw [hs.out k e]; exact h.2.2.2 k l h1 h2 h3 (Or.inr h4)
    · exact hs.all (fun v => v ≤ Y l) (fun j j1 j2 => h.2.2.2 j l (by have := h.1; omega) (by omega) h3 (Or.inr h4)) k (by omega) (by omega)
theorem out_all {Y : Nat → Nat} {a0 b0 a b : Nat} (h : Out Y a0 b0 a b) (hs : Srt Y a b) : Srt Y a0 b0 := by
  intro k l h1 h2 h3
  by_cases e : k < a ∨ b ≤ l
  · exact h.2.2.2 k l h1 h2 h3 e
  · exact hs k l (by omega) h2 (by omega)
theorem out_less {Z V : Nat → Nat} {a0 b0 a b m : Nat} (h : Out Z a0 b0 a b) (ha : a ≤ m) (hm : m < b) (h1 : ∀ k, a ≤ k → k < m → Z k ≤ Z m) (h2 : ∀ k, m < k → k < b → Z m ≤ Z k) (hs : Sw a m Z V) (hv : Srt V a m) : Out V a0 b0 (m + 1) b := by
  have h' := out_sw h (hs.mono (Nat.le_refl _) (by omega))
  have hV : ∀ k, a ≤ k → k < m → V k ≤ Z m := hs.all (fun v => v ≤ Z m) h1
  refine ⟨by have := h.1; omega, by omega, h.2.2.1, fun k l k1 k2 k3 k4 => ?_⟩
  by_cases e : k < a ∨ b ≤ l
  · exact h'.2.2.2 k l k1 k2 k3 e
  · by_cases f : l < m
    · exact hv k l (by omega) k2 f
    · rw [hs.out l (Or.inr (by omega))]
      by_cases g : k = m
      · rw [g, hs.out m (Or.inr (Nat.le_refl _))]; exact h2 l (by omega) (by omega)
      · have q := hV k (by omega) (by omega)
        by_cases i : l = m
        · rw [i]; exact q
        · exact Nat.le_trans q (h2 l (by omega) (by omega))
theorem out_more {Z V : Nat → Nat} {a0 b0 a b m : Nat} (h : Out Z a0 b0 a b) (ha : a ≤ m) (hm : m < b) (h1 : ∀ k, a ≤ k → k < m → Z k ≤ Z m) (h2 : ∀ k, m < k → k < b → Z m ≤ Z k) (hs : Sw (m + 1) b Z V) (hv : Srt V (m + 1) b) : Out V a0 b0 a m := by
  have h' := out_sw h (hs.mono (by omega) (Nat.le_refl _))
  have hV : ∀ k, m + 1 ≤ k → k < b → Z m ≤ V k := hs.all (fun v => Z m ≤ v) (fun k k1 k2 => h2 k (by omega) k2)
  refine ⟨h.1, ha, by have := h.2.2.1; omega, fun k l k1 k2 k3 k4 => ?_⟩
  by_cases e : k < a ∨ b ≤ l
  · exact h'.2.2.2 k l k1 k2 k3 e
  · by_cases f : m < k
    · exact hv k l (by omega) k2 (by omega)
    · rw [hs.out k (Or.inl (by omega))]
      have q : Z k ≤ Z m := by
        by_cases g : k = m
        · rw [g]; exact Nat.le_refl _
        · exact h1 k (by omega) (by omega)
      by_cases i : l = m
      · rw [hs.out l (Or.inl (by omega)), i]; exact q
      · exact Nat.le_trans q (hV l (by omega) (by omega))
theorem out_same {Y Z : Nat → Nat} {a0 b0 a b m v : Nat} (h : Out Z a0 b0 a b) (ha : a < m) (hm : m ≤ b) (h0 : ∀ k, a ≤ k → k < b → v ≤ Z k) (h1 : ∀ k, a ≤ k → k < m → Z k ≤ v) : Out Z a0 b0 m b := by
  refine ⟨by have := h.1; omega, hm, h.2.2.1, fun k l k1 k2 k3 k4 => ?_⟩
  by_cases e : k < a ∨ b ≤ l
  · exact h.2.2.2 k l k1 k2 k3 e
  · exact Nat.le_trans (h1 k (by omega) (by omega)) (h0 l (by omega) (by omega))
/-- What lies left of a part is not above what is in it. -/
def Lft (Y : Nat → Nat) (a b : Nat) : Prop := a = 0 ∨ ∀ k, a ≤ k → k < b → Y (a - 1) ≤ Y k
theorem lft_of {X Y : Nat → Nat} {a0 b0 a b : Nat} (hl : Lft X a0 b0) (hs : Sw a0 b0 X Y) (h : Out Y a0 b0 a b) : Lft Y a b := by
  by_cases e : a = 0
  · exact Or.inl e
  · right
    intro k k1 k2
    by_cases f : a = a0
    · have hl' := hl.resolve_left (by omega)
      rw [f, hs.out (a0 - 1) (Or.inl (by omega))]
      exact hs.all (fun v => X (a0 - 1) ≤ v) hl' k (by omega) (by have := h.2.2.1; omega)
    · exact h.2.2.2 (a - 1) k (by have := h.1; omega) (by omega) (by have := h.2.2.1; omega) (Or.inl (by omega))
theorem lft_sw {X Y : Nat → Nat} {a b : Nat} (hl : Lft X a b) (hs : Sw a b X Y) : Lft Y a b := by
  rcases hl with hl | hl
  · exact Or.inl hl
  · by_cases e : a = 0
    · exact Or.inl e
    · right
      rw [hs.out (a - 1) (Or.inl (by omega))]
      exact hs.all (fun v => X (a - 1) ≤ v) hl
end Go.Proofs.Ytibgdlianedcbaa
