/- comeIn, claim, finish, Line, New, Copy. -/
import Derived.Test.YtfdhhmgenbopbaaB3
namespace Go.Proofs.Ytfdhhmgenbopbaa
open Go.ChangeShapes Go.WideShapes Go.ChangeAt Go.RowKit
set_option linter.unusedVariables false
set_option linter.unusedSimpArgs false
theorem n9 {n : Nat} (h : n < 9) : n = 0 ∨ n = 1 ∨ n = 2 ∨ n = 3 ∨ n = 4 ∨ n = 5 ∨ n = 6 ∨ n = 7 ∨ n = 8 := by omega
theorem k31 {k : Nat} (h : k < 31) : k = 0 ∨ k = 1 ∨ k = 2 ∨ k = 3 ∨ k = 4 ∨ k = 5 ∨ k = 6 ∨ k = 7 ∨ k = 8 ∨ k = 9 ∨ k = 10 ∨ k = 11 ∨ k = 12 ∨ k = 13 ∨ k = 14 ∨ k = 15 ∨ k = 16 ∨ k = 17 ∨ k = 18 ∨ k = 19 ∨ k = 20 ∨ k = 21 ∨ k = 22 ∨ k = 23 ∨ k = 24 ∨ k = 25 ∨ k = 26 ∨ k = 27 ∨ k = 28 ∨ k = 29 ∨ k = 30 := by omega
theorem IsP.setSt {w : World} {b : Nat} {S : St} (h : IsP w b S) (n x : Nat) (hn : n < 9) : IsP (w.setCell ⟨b, n * 3 + 1, none⟩ (.int .i64 (x : Nat))) b (S.setSt n x) :=
  h.setCell (by omega) (fun k hk => by
    rcases n9 hn with rfl | rfl | rfl | rfl | rfl | rfl | rfl | rfl | rfl <;> (rcases k31 hk with rfl | rfl | rfl | rfl | rfl | rfl | rfl | rfl | rfl | rfl | rfl | rfl | rfl | rfl | rfl | rfl | rfl | rfl | rfl | rfl | rfl | rfl | rfl | rfl | rfl | rfl | rfl | rfl | rfl | rfl | rfl <;> rfl))
theorem IsP.setPr {w : World} {b : Nat} {S : St} (h : IsP w b S) (n x : Nat) (hn : n < 9) : IsP (w.setCell ⟨b, n * 3 + 2, none⟩ (.int .u64 (x : Nat))) b (S.setPr n x) :=
  h.setCell (by omega) (fun k hk => by
    rcases n9 hn with rfl | rfl | rfl | rfl | rfl | rfl | rfl | rfl | rfl <;> (rcases k31 hk with rfl | rfl | rfl | rfl | rfl | rfl | rfl | rfl | rfl | rfl | rfl | rfl | rfl | rfl | rfl | rfl | rfl | rfl | rfl | rfl | rfl | rfl | rfl | rfl | rfl | rfl | rfl | rfl | rfl | rfl | rfl <;> rfl))
theorem IsP.setUp {w : World} {b : Nat} {S : St} (h : IsP w b S) (n : Nat) (x : Bool) (hn : n < 9) : IsP (w.setCell ⟨b, n * 3, none⟩ (.bool x)) b (S.setUp n x) :=
  h.setCell (by omega) (fun k hk => by
    rcases n9 hn with rfl | rfl | rfl | rfl | rfl | rfl | rfl | rfl | rfl <;> (rcases k31 hk with rfl | rfl | rfl | rfl | rfl | rfl | rfl | rfl | rfl | rfl | rfl | rfl | rfl | rfl | rfl | rfl | rfl | rfl | rfl | rfl | rfl | rfl | rfl | rfl | rfl | rfl | rfl | rfl | rfl | rfl | rfl <;> rfl))
theorem IsP.setEn {w : World} {b : Nat} {S : St} (h : IsP w b S) (n x : Nat) (hn : n < 2) : IsP (w.setCell ⟨b, 27 + n * 2, none⟩ (.int .u64 (x : Nat))) b (S.setEn n x) :=
  h.setCell (by omega) (fun k hk => by
    rcases (show n = 0 ∨ n = 1 by omega) with rfl | rfl <;> (rcases k31 hk with rfl | rfl | rfl | rfl | rfl | rfl | rfl | rfl | rfl | rfl | rfl | rfl | rfl | rfl | rfl | rfl | rfl | rfl | rfl | rfl | rfl | rfl | rfl | rfl | rfl | rfl | rfl | rfl | rfl | rfl | rfl <;> rfl))
theorem IsP.setTh {w : World} {b : Nat} {S : St} (h : IsP w b S) (n x : Nat) (hn : n < 2) : IsP (w.setCell ⟨b, 27 + n * 2 + 1, none⟩ (.int .u64 (x : Nat))) b (S.setTh n x) :=
  h.setCell (by omega) (fun k hk => by
    rcases (show n = 0 ∨ n = 1 by omega) with rfl | rfl <;> (rcases k31 hk with rfl | rfl | rfl | rfl | rfl | rfl | rfl | rfl | rfl | rfl | rfl | rfl | rfl | rfl | rfl | rfl | rfl | rfl | rfl | rfl | rfl | rfl | rfl | rfl | rfl | rfl | rfl | rfl | rfl | rfl | rfl <;> rfl))
def comeF (S : St) (n : Nat) : St := bif S.up n && S.st n == 0 then S.setSt n 1 else S
def RetN (S : St) (W : World) (e : Ending) (w' : World) : Prop := ∃ b, e = .returned (.pointer (some ⟨b, 0, none⟩)) ∧ W.heap.size ≤ b ∧ IsP w' b S ∧ Below W.heap.size W w'
set_option maxRecDepth 100000 in
theorem new_c (w : World) : Calls Try.prog 6 #[] w (RetN S0 w) := by
  go_enter Try.func6, Try.ntmps6
  go_wp2_with fail
  go_ret
  exact ⟨_, rfl, Nat.le_refl _, isP_new w S0 _, (by repeat (first | (with_reducible first | exact Below.refl _ _ | assumption | exact Nat.le_refl _ | refine Below.drew ?_ | refine Below.alloc ?_ ?_ _ | refine below_drewN ?_ _ | refine Below.setCell ?_ ?_ _ | refine le_alloc ?_ | refine le_set ?_ | refine le_drew ?_ | refine le_drewN ?_ | refine below_step (by assumption) ?_ ?_ | refine le_below (by assumption) ?_) | (dsimp only; omega)))⟩
set_option maxRecDepth 100000 in
theorem come_c (b n : Nat) (S : St) (w : World) (hP : Hid (IsP w b S)) (hn : Hid (n < 9)) : Calls Try.prog 17 #[.pointer (some ⟨b, n * 3, none⟩)] w (RetP b (comeF S n) w) := by
  have q1 := hP.out.up n hn.out
  have q2 := hP.out.st n hn.out
  have q3 := hP.out.fr (n * 3 + 1) (by have := hn.out; omega)
  have HS := Lib.hid (hP.out.setSt n 1 hn.out)
  cases h1 : S.up n
  · rw [h1] at q1
    have HC : Hid (comeF S n = S) := by show _ = _; unfold comeF; rw [h1]; rfl
    clear h1
    go_enter Try.func17, Try.ntmps17
    go_wp2_with fail
    go_end0
    exact ⟨rfl, by rw [HC.out]; exact hP.out, grown_refl _ _⟩
  · rw [h1] at q1
    cases h2 : (S.st n == 0)
    · have h2' : (((S.st n : Nat) : Int) == 0) = false := (cast_beq (S.st n) 0).trans h2
      have HC : Hid (comeF S n = S) := by show _ = _; unfold comeF; rw [h1, h2]; rfl
      clear h1 h2
      go_enter Try.func17, Try.ntmps17
      go_wp2_with fail
      go_end0
      exact ⟨rfl, by rw [HC.out]; exact hP.out, grown_refl _ _⟩
    · have h2' : (((S.st n : Nat) : Int) == 0) = true := (cast_beq (S.st n) 0).trans h2
      have HC : Hid (comeF S n = S.setSt n 1) := by show _ = _; unfold comeF; rw [h1, h2]; rfl
      clear h1 h2
      go_enter Try.func17, Try.ntmps17
      go_wp2_with fail
      go_end0
      exact ⟨rfl, by rw [HC.out]; exact HS.out, grown_set (grown_refl _ _) _ none _ none⟩
end Go.Proofs.Ytfdhhmgenbopbaa
