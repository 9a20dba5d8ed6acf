/- Where a walk ends, and what other walks end likewise. -/
import Derived.Test.YthhlcchofilimaaDoorF1
namespace Go.Proofs.YthhlcchofilimaaDoor
open Go.ChangeShapes Go.WideShapes Go.ChangeAt Go.RowKit Y
set_option linter.unusedVariables false
set_option linter.unusedSimpArgs false
theorem page_pos (k : Int) : pageN k ≠ 0 := by
  unfold pageN
  by_cases h : k = 0
  · rw [if_pos h]; decide
  · rw [if_neg h]; by_cases h2 : k = 2 ∨ k = 3
    · rw [if_pos h2]; decide
    · rw [if_neg h2]; decide
theorem fault_pos (k : Int) : faultN k ≠ 0 := by
  unfold faultN
  by_cases h : k = 0
  · rw [if_pos h]; decide
  · rw [if_neg h]; by_cases h2 : k = 2 ∨ k = 3
    · rw [if_pos h2]; decide
    · rw [if_neg h2]; decide
theorem page_lt (k : Int) : pageN k < 16 := by
  unfold pageN
  by_cases h : k = 0
  · rw [if_pos h]; decide
  · rw [if_neg h]; by_cases h2 : k = 2 ∨ k = 3
    · rw [if_pos h2]; decide
    · rw [if_neg h2]; decide
theorem fault_lt (k : Int) : faultN k < 16 := by
  unfold faultN
  by_cases h : k = 0
  · rw [if_pos h]; decide
  · rw [if_neg h]; by_cases h2 : k = 2 ∨ k = 3
    · rw [if_pos h2]; decide
    · rw [if_neg h2]; decide
/-- What a step finds. -/
def Found (F S : Nat → Nat) (m k : Int) (A L tb x e : Nat) : Prop := fromN L tb A = x ∧ (chkB (cfO S) (adO S) 1 1 x 8 = true ∧ U.M.hasV x 8 = true) ∧ U.M.readV F x 8 = e ∧ brokenB e = false
theorem step_inv {F S : Nat → Nat} {m k : Int} {A L tb : Nat} {nx : Nat → WRes} (h : (stepW F S m k A L tb nx).cau = 0) :
    ∃ x e, Found F S m k A L tb x e ∧ ((leafB e = true ∧ permB S m k e = true ∧ 4096 * nextN e % 2 ^ (12 + 9 * L) = 0 ∧ stepW F S m k A L tb nx = ⟨4096 * nextN e + A % 2 ^ (12 + 9 * L), L, e, x, 0⟩) ∨
      (leafB e = false ∧ (e.testBit 4 || e.testBit 6 || e.testBit 7) = false ∧ stepW F S m k A L tb nx = nx (nextN e))) := by
  refine ⟨fromN L tb A, U.M.readV F (fromN L tb A) 8, ?_⟩
  by_cases h1 : chkB (cfO S) (adO S) 1 1 (fromN L tb A) 8 = true ∧ U.M.hasV (fromN L tb A) 8 = true
  · cases h2 : brokenB (U.M.readV F (fromN L tb A) 8) with
    | true => unfold stepW at h; rw [if_pos h1, if_pos h2] at h; exact absurd h (page_pos k)
    | false =>
      refine ⟨⟨rfl, h1, rfl, h2⟩, ?_⟩
      cases h3 : leafB (U.M.readV F (fromN L tb A) 8) with
      | true =>
        by_cases h4 : permB S m k (U.M.readV F (fromN L tb A) 8) = true ∧ 4096 * nextN (U.M.readV F (fromN L tb A) 8) % 2 ^ (12 + 9 * L) = 0
        · exact Or.inl ⟨rfl, h4.1, h4.2, step_leaf rfl h1 rfl h2 h3 h4⟩
        · unfold stepW at h; rw [if_pos h1, if_neg (by rw [h2]; decide), if_pos h3, if_neg h4] at h; exact absurd h (page_pos k)
      | false =>
        cases h5 : ((U.M.readV F (fromN L tb A) 8).testBit 4 || (U.M.readV F (fromN L tb A) 8).testBit 6 || (U.M.readV F (fromN L tb A) 8).testBit 7) with
        | true => unfold stepW at h; rw [if_pos h1, if_neg (by rw [h2]; decide), if_neg (by rw [h3]; decide), if_pos h5] at h; exact absurd h (page_pos k)
        | false => exact Or.inr ⟨rfl, rfl, step_next rfl h1 rfl h2 h3 h5⟩
  · unfold stepW at h; rw [if_neg h1] at h; exact absurd h (fault_pos k)
theorem step_cause {F S : Nat → Nat} {m k : Int} {A L tb : Nat} {nx : Nat → WRes} (hn : ∀ t, (nx t).cau ≠ 0 → nx t = noW (nx t).cau ∧ (nx t).cau < 16) (h : (stepW F S m k A L tb nx).cau ≠ 0) :
    stepW F S m k A L tb nx = noW (stepW F S m k A L tb nx).cau ∧ (stepW F S m k A L tb nx).cau < 16 := by
  unfold stepW at h ⊢
  split
  · split
    · exact ⟨rfl, page_lt k⟩
    · split
      · split
        · rename_i h1 h2 h3 h4
          rw [if_pos h1, if_neg h2, if_pos h3, if_pos h4] at h
          exact absurd rfl h
        · exact ⟨rfl, page_lt k⟩
      · split
        · exact ⟨rfl, page_lt k⟩
        · rename_i h1 h2 h3 h4
          rw [if_pos h1, if_neg h2, if_neg h3, if_neg h4] at h
          exact hn _ h
  · exact ⟨rfl, fault_lt k⟩
theorem walk_cause {F S : Nat → Nat} {m k : Int} {A : Nat} (h : (walkF F S m k A).cau ≠ 0) : walkF F S m k A = noW (walkF F S m k A).cau ∧ (walkF F S m k A).cau < 16 := by
  unfold walkF at h ⊢
  split
  · rename_i h1; rw [if_pos h1] at h; exact absurd rfl h
  · rename_i h1
    rw [if_neg h1] at h
    split
    · exact ⟨rfl, page_lt k⟩
    · rename_i h2
      rw [if_neg h2] at h
      exact step_cause (fun t h => step_cause (fun t h => step_cause (fun t h => ⟨rfl, page_lt k⟩) h) h) h
theorem from_same {A B L l tb : Nat} (h : A / 2 ^ (12 + 9 * L) = B / 2 ^ (12 + 9 * L)) (hl : L ≤ l) : fromN l tb A = fromN l tb B := by
  unfold fromN
  have e : 2 ^ (12 + 9 * l) = 2 ^ (12 + 9 * L) * 2 ^ (9 * (l - L)) := by rw [← Nat.pow_add]; congr 1; omega
  rw [e, ← Nat.div_div_eq_div_mul, ← Nat.div_div_eq_div_mul, h]
theorem high_same {A B L : Nat} (h : A / 2 ^ (12 + 9 * L) = B / 2 ^ (12 + 9 * L)) (hl : L ≤ 2) : A / 2 ^ 38 = B / 2 ^ 38 := by
  have e : (2 : Nat) ^ 38 = 2 ^ (12 + 9 * L) * 2 ^ (26 - 9 * L) := by rw [← Nat.pow_add]; congr 1; omega
  rw [e, ← Nat.div_div_eq_div_mul, ← Nat.div_div_eq_div_mul, h]
theorem from_8 (L tb A : Nat) : fromN L tb A % 8 = 0 := by unfold fromN; omega
/-- Memory that differs at most at x (eight bytes). -/
def Alike (F F' : Nat → Nat) (x : Nat) : Prop := ∀ y, y % 8 = 0 → y ≠ x → U.M.readV F' y 8 = U.M.readV F y 8
theorem leaf_ne {F : Nat → Nat} {x y e e' : Nat} (h1 : U.M.readV F x 8 = e) (h2 : U.M.readV F y 8 = e') (h3 : leafB e = true) (h4 : leafB e' = false) : y ≠ x := fun h => by subst h; rw [h1] at h2; rw [h2, h4] at h3; cases h3
theorem found_alike {F F' S : Nat → Nat} {m k : Int} {A B L l tb x y e : Nat} (hf : Found F S m k A l tb y e) (ha : Alike F F' x) (hy : y ≠ x) (h : B / 2 ^ (12 + 9 * L) = A / 2 ^ (12 + 9 * L)) (hl : L ≤ l) : Found F' S m k B l tb y e := by
  obtain ⟨h1, h2, h3, h4⟩ := hf
  refine ⟨(from_same h hl).trans h1, h2, ?_, h4⟩
  rw [ha y (by rw [← h1]; exact from_8 _ _ _) hy]; exact h3
theorem found_next {F S : Nat → Nat} {m k : Int} {A L tb x e : Nat} {nx : Nat → WRes} (hf : Found F S m k A L tb x e) (hl : leafB e = false) (hu : (e.testBit 4 || e.testBit 6 || e.testBit 7) = false) : stepW F S m k A L tb nx = nx (nextN e) :=
  step_next hf.1 hf.2.1 hf.2.2.1 hf.2.2.2 hl hu
/-- Where a walk ends: in no scheme, or at a leaf; and a walk of an address of the same page over a memory that differs at most there comes to the same place. -/
theorem walk_inv {F S : Nat → Nat} {m k : Int} {A : Nat} (h : (walkF F S m k A).cau = 0) :
    ((m = 3 ∨ S 20 / 2 ^ 60 ≠ 8) ∧ walkF F S m k A = ⟨A, -1, 0, 0, 0⟩) ∨ ∃ L tb x e, L ≤ 2 ∧ Found F S m k A L tb x e ∧ leafB e = true ∧ permB S m k e = true ∧ 4096 * nextN e % 2 ^ (12 + 9 * L) = 0 ∧ walkF F S m k A = ⟨4096 * nextN e + A % 2 ^ (12 + 9 * L), L, e, x, 0⟩ ∧
      ∀ F' B, Alike F F' x → B / 2 ^ (12 + 9 * L) = A / 2 ^ (12 + 9 * L) → fromN L tb B = x ∧ ∃ nx, walkF F' S m k B = stepW F' S m k B L tb nx := by
  by_cases h1 : m = 3 ∨ S 20 / 2 ^ 60 ≠ 8
  · exact Or.inl ⟨h1, by unfold walkF; rw [if_pos h1]⟩
  refine Or.inr ?_
  by_cases h2 : A / 2 ^ 38 ≠ 0 ∧ A / 2 ^ 38 ≠ 67108863
  · unfold walkF at h; rw [if_neg h1, if_pos h2] at h; exact absurd h (page_pos k)
  have ew : ∀ F' B L, L ≤ 2 → B / 2 ^ (12 + 9 * L) = A / 2 ^ (12 + 9 * L) → walkF F' S m k B = stepW F' S m k B 2 (S 20 % 2 ^ 44) (fun t => stepW F' S m k B 1 t (fun t => stepW F' S m k B 0 t (fun _ => noW (pageN k)))) := fun F' B L hL hB => by
    unfold walkF
    rw [if_neg h1, if_neg (by rw [high_same hB hL]; exact h2)]
  have e0 := ew F A 2 (Nat.le_refl _) rfl
  rw [e0] at h
  obtain ⟨x2, v2, f2, h3 | h3⟩ := step_inv h
  · obtain ⟨l2, p2, a2, r2⟩ := h3
    exact ⟨2, _, x2, v2, Nat.le_refl _, f2, l2, p2, a2, e0.trans r2, fun F' B ha hB => ⟨(from_same hB (Nat.le_refl _)).trans f2.1, _, ew F' B 2 (Nat.le_refl _) hB⟩⟩
  obtain ⟨l2, u2, r2⟩ := h3
  rw [r2] at h
  obtain ⟨x1, v1, f1, h3 | h3⟩ := step_inv h
  · obtain ⟨l1, p1, a1, r1⟩ := h3
    refine ⟨1, _, x1, v1, by decide, f1, l1, p1, a1, e0.trans (r2.trans r1), fun F' B ha hB => ⟨(from_same hB (Nat.le_refl _)).trans f1.1, (fun t => stepW F' S m k B 0 t (fun _ => noW (pageN k))), ?_⟩⟩
    exact (ew F' B 1 (by decide) hB).trans (found_next (found_alike f2 ha (leaf_ne f1.2.2.1 f2.2.2.1 l1 l2) hB (by decide)) l2 u2)
  obtain ⟨l1, u1, r1⟩ := h3
  rw [r1] at h
  obtain ⟨x0, v0, f0, h3 | h3⟩ := step_inv h
  · obtain ⟨l0, p0, a0, r0⟩ := h3
    refine ⟨0, _, x0, v0, by decide, f0, l0, p0, a0, e0.trans (r2.trans (r1.trans r0)), fun F' B ha hB => ⟨(from_same hB (Nat.le_refl _)).trans f0.1, (fun _ => noW (pageN k)), ?_⟩⟩
    exact (ew F' B 0 (by decide) hB).trans ((found_next (found_alike f2 ha (leaf_ne f0.2.2.1 f2.2.2.1 l0 l2) hB (by decide)) l2 u2).trans
      (found_next (found_alike f1 ha (leaf_ne f0.2.2.1 f1.2.2.1 l0 l1) hB (by decide)) l1 u1))
  · obtain ⟨l0, u0, r0⟩ := h3
    rw [r0] at h; exact absurd h (page_pos k)
/-- Two addresses of one page. -/
theorem walk_pages {F S : Nat → Nat} {m k : Int} {A B L tb x e : Nat} (hf : Found F S m k A L tb x e) (hl : leafB e = true) (hp : permB S m k e = true) (ha : 4096 * nextN e % 2 ^ (12 + 9 * L) = 0)
    (hn : ∀ F' B, Alike F F' x → B / 2 ^ (12 + 9 * L) = A / 2 ^ (12 + 9 * L) → fromN L tb B = x ∧ ∃ nx, walkF F' S m k B = stepW F' S m k B L tb nx) (hB : B / 2 ^ (12 + 9 * L) = A / 2 ^ (12 + 9 * L)) :
    walkF F S m k B = ⟨4096 * nextN e + B % 2 ^ (12 + 9 * L), L, e, x, 0⟩ := by
  obtain ⟨h1, nx, h2⟩ := hn F B (fun _ _ _ => rfl) hB
  rw [h2]
  exact step_leaf h1 hf.2.1 hf.2.2.1 hf.2.2.2 hl ⟨hp, ha⟩
end Go.Proofs.YthhlcchofilimaaDoor
