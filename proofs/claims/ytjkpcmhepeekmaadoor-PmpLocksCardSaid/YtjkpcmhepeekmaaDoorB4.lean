/- Check of any access; the reference's Check. -/
import Derived.Test.YtjkpcmhepeekmaaDoorB3
namespace Go.Proofs.YtjkpcmhepeekmaaDoor
open Go.ChangeShapes Go.WideShapes Go.ChangeAt Go.RowKit
set_option linter.unusedVariables false
set_option linter.unusedSimpArgs false
theorem mode_beq (mode : Int) : (mode == 3) = decide (mode = 3) := by rw [Bool.eq_iff_iff]; simp
theorem chk_y {c a : Nat → Nat} {mode kind : Int} {x : Nat} {size : Int} {k s : Nat} (h : Acc kind x size k s) : chkB c a mode kind x size = goF c a (decide (mode = 3)) k x (x + s - 1) 8 := by
  unfold chkB
  rw [acc_k h]
  obtain ⟨rfl, h1, rfl, h2, h3⟩ := h
  rfl
theorem chk_n {c a : Nat → Nat} {mode kind : Int} {x : Nat} {size : Int} (h : accB kind x size = false) : chkB c a mode kind x size = false := by unfold chkB; rw [h]; rfl
theorem Check_c (c a : Nat → Nat) (mode kind : Int) (x : Nat) (size : Int) (hc : Hid (OkC c)) (ha : Hid (OkA a)) (hx : Hid (x < 18446744073709551616)) (w : World) (hG : Hid (G w)) :
    Calls Tryd.prog 11 #[.agg (u8s c), .agg (u64s a), .int .i64 mode, .int .i64 kind, .int .u64 x, .int .i64 size] w (RetB (chkB c a mode kind x size) w) := by
  cases h : accB kind x size with
  | false => rw [chk_n h]; exact Check_n c a mode kind x size h hx w
  | true =>
    obtain ⟨k, s, hk⟩ := acc_y h
    rw [chk_y hk]
    exact Check_y c a mode kind x size k s hk hc ha hx _ (mode_beq mode) w hG
/-- How the reference goes over an access' bytes: some, all, behind the first i of them. -/
def inB (c a : Nat → Nat) (n v : Nat) : Bool := rOk c a n && decide (rA c a n ≤ v) && decide (v ≤ rB c a n)
def someB (c a : Nat → Nat) (n x : Nat) : Nat → Bool
  | 0 => false
  | i + 1 => someB c a n x i || inB c a n (x + i)
def allB (c a : Nat → Nat) (n x : Nat) : Nat → Bool
  | 0 => true
  | i + 1 => allB c a n x i && inB c a n (x + i)
theorem inB_iff {c a : Nat → Nat} {n v : Nat} : inB c a n v = true ↔ rOk c a n = true ∧ rA c a n ≤ v ∧ v ≤ rB c a n := by
  unfold inB; simp [and_assoc]
theorem some_iff (c a : Nat → Nat) (n x : Nat) : ∀ i, someB c a n x i = true ↔ ∃ j, j < i ∧ inB c a n (x + j) = true
  | 0 => by simp [someB]
  | i + 1 => by
    rw [show someB c a n x (i + 1) = (someB c a n x i || inB c a n (x + i)) from rfl, Bool.or_eq_true, some_iff c a n x i]
    constructor
    · rintro (⟨j, hj, h⟩ | h)
      · exact ⟨j, by omega, h⟩
      · exact ⟨i, by omega, h⟩
    · rintro ⟨j, hj, h⟩
      by_cases e : j = i
      · subst e; exact Or.inr h
      · exact Or.inl ⟨j, by omega, h⟩
theorem all_iff (c a : Nat → Nat) (n x : Nat) : ∀ i, allB c a n x i = true ↔ ∀ j, j < i → inB c a n (x + j) = true
  | 0 => by simp [allB]
  | i + 1 => by
    rw [show allB c a n x (i + 1) = (allB c a n x i && inB c a n (x + i)) from rfl, Bool.and_eq_true, all_iff c a n x i]
    constructor
    · rintro ⟨h1, h2⟩ j hj
      by_cases e : j = i
      · subst e; exact h2
      · exact h1 j (by omega)
    · intro h
      exact ⟨fun j hj => h j (by omega), h i (by omega)⟩
theorem miss_some {c a : Nat → Nat} {n x s : Nat} (hs : 1 ≤ s) : missB c a x (x + s - 1) n = !someB c a n x s := by
  cases hK : rOk c a n with
  | false =>
    have : someB c a n x s = false := by
      rw [Bool.eq_false_iff]
      intro h
      obtain ⟨j, -, h2⟩ := (some_iff c a n x s).1 h
      have := (inB_iff.1 h2).1
      rw [hK] at this; cases this
    unfold missB
    rw [this, hK]; rfl
  | true =>
    have hle := r_le hK
    rw [Bool.eq_iff_iff]
    unfold missB
    rw [hK]
    simp only [Bool.not_true, Bool.false_or, Bool.or_eq_true, decide_eq_true_eq, Bool.not_eq_true', Bool.eq_false_iff, ne_eq, some_iff, inB_iff, not_exists, not_and]
    constructor
    · rintro h j hj - h3 h4
      omega
    · intro h
      apply Classical.byContradiction
      intro h2
      by_cases hx : rA c a n ≤ x
      · exact h 0 (by omega) hK (by omega) (by omega)
      · exact h (rA c a n - x) (by omega) hK (by omega) (by omega)
theorem part_all {c a : Nat → Nat} {n x s : Nat} (hs : 1 ≤ s) (h : someB c a n x s = true) : partB c a x (x + s - 1) n = !allB c a n x s := by
  obtain ⟨j, hj, h2⟩ := (some_iff c a n x s).1 h
  obtain ⟨hK, h3, h4⟩ := inB_iff.1 h2
  rw [Bool.eq_iff_iff]
  unfold partB
  simp only [Bool.or_eq_true, decide_eq_true_eq, Bool.not_eq_true', Bool.eq_false_iff, ne_eq, all_iff, inB_iff, not_and]
  constructor
  · intro h5 h6
    have a1 := h6 0 (by omega)
    have a2 := h6 (s - 1) (by omega)
    omega
  · intro h5
    apply Classical.byContradiction
    intro h6
    apply h5
    intro i hi
    exact ⟨hK, by omega, by omega⟩
theorem go_ref {c a : Nat → Nat} {m : Bool} {k x s n g : Nat} (hs : 1 ≤ s) (hn : n + (g + 1) = 8) : goF c a m k x (x + s - 1) (g + 1) = bif someB c a n x s then allB c a n x s && ((m && !lockB (c n)) || allowB (c n) k) else goF c a m k x (x + s - 1) g := by
  cases h : someB c a n x s with
  | false => exact go_miss hn (by rw [miss_some hs, h]; rfl)
  | true =>
    cases h2 : allB c a n x s with
    | false => rw [go_part hn (by rw [miss_some hs, h]; rfl) (by rw [part_all hs h, h2]; rfl)]; rfl
    | true => rw [go_all hn (by rw [miss_some hs, h]; rfl) (by rw [part_all hs h, h2]; rfl)]; rfl
end Go.Proofs.YtjkpcmhepeekmaaDoor
