/- The document's plic: what comes in where one source has gone out of service. -/
import Derived.Test.YtoicpikkcefheaaGreatRA
namespace Go.Proofs.YtoicpikkcefheaaGreat.P
open Go.ChangeShapes Go.WideShapes Go.ChangeAt Go.RowKit
open M (Fp Dj Cw Up Th)
set_option linter.unusedVariables false
set_option linter.unusedSimpArgs false
set_option maxRecDepth 20000
theorem come_bits2 {u v s : Nat} {S : St} {n : Nat} {x : Bool} (hu : Bits u (set S.up n x)) (hv : Bits v (fun k => S.st k == 1)) (hs : Bits s (fun k => S.st k == 2)) (hi : (∀ k, k ≠ n → S.up k = true → S.st k ≠ 0) ∧ S.pr 0 = 0 ∧ S.st 0 = 0 ∧ S.up 0 = false) (hok : OkS S) (hn : 1 ≤ n ∧ n < 9) :
    Bits (v ||| (u &&& (18446744073709551615 - s))) (fun k => (comeF (S.setUp n x) n).st k == 1) ∧ Bits s (fun k => (comeF (S.setUp n x) n).st k == 2) ∧ Bits u (comeF (S.setUp n x) n).up ∧ InvS (comeF (S.setUp n x) n) := by
  have hd := hv.or (hu.diff hs)
  have e1 : (S.setUp n x).up n = x := set_same2 S.up n x
  have st3 := hok.2.2.2
  unfold comeF
  rw [e1]
  cases hc : (x && S.st n == 0) with
  | false =>
    have hc' : (x && (S.setUp n x).st n == 0) = false := hc
    rw [hc']
    refine ⟨hd.congr fun k _ => ?_, hs, hu, fun k hk => ?_, hi.2.1, hi.2.2.1, ?_⟩
    · show (S.st k == 1 || (set S.up n x k && !(S.st k == 2))) = (S.st k == 1)
      cases h1 : S.st k == 1 with
      | true => rfl
      | false =>
        cases h2 : S.st k == 2 with
        | true => simp
        | false =>
          have h0 : S.st k = 0 := by have := st3 k; simp at h1 h2; omega
          by_cases e : k = n
          · subst e
            rw [set_same2]
            rw [h0] at hc
            simpa using hc
          · rw [set_ne2 _ _ _ _ e]
            cases hk : S.up k with
            | false => rfl
            | true => exact absurd h0 (hi.1 k e hk)
    · have hk' : set S.up n x k = true := hk
      show S.st k ≠ 0
      by_cases e : k = n
      · subst e
        rw [set_same2] at hk'
        subst hk'
        simpa using hc
      · rw [set_ne2 _ _ _ _ e] at hk'
        exact hi.1 k e hk'
    · show set S.up n x 0 = false
      rw [set_ne2 _ _ _ _ (by omega)]; exact hi.2.2.2
  | true =>
    have hc' : (x && (S.setUp n x).st n == 0) = true := hc
    rw [hc']
    simp at hc
    obtain ⟨hx, h0⟩ := hc
    refine ⟨hd.congr fun k _ => ?_, hs.congr fun k _ => ?_, hu, fun k hk => ?_, hi.2.1, ?_, ?_⟩
    · show (S.st k == 1 || (set S.up n x k && !(S.st k == 2))) = (set S.st n 1 k == 1)
      by_cases e : k = n
      · subst e
        rw [set_same2, set_same2, h0, hx]; rfl
      · rw [set_ne2 _ _ _ _ e, set_ne2 _ _ _ _ e]
        cases h1 : S.st k == 1 with
        | true => rfl
        | false =>
          cases h2 : S.st k == 2 with
          | true => simp
          | false =>
            have h0 : S.st k = 0 := by have := st3 k; simp at h1 h2; omega
            cases hk : S.up k with
            | false => rfl
            | true => exact absurd h0 (hi.1 k e hk)
    · show (S.st k == 2) = (set S.st n 1 k == 2)
      by_cases e : k = n
      · subst e; rw [set_same2, h0]; rfl
      · rw [set_ne2 _ _ _ _ e]
    · have hk' : set S.up n x k = true := hk
      show set S.st n 1 k ≠ 0
      by_cases e : k = n
      · subst e; rw [set_same2]; decide
      · rw [set_ne2 _ _ _ _ e] at hk' ⊢
        exact hi.1 k e hk'
    · show set S.st n 1 0 = 0
      rw [set_ne2 _ _ _ _ (by omega)]; exact hi.2.2.1
    · show set S.up n x 0 = false
      rw [set_ne2 _ _ _ _ (by omega)]; exact hi.2.2.2
theorem set_self {α : Type} (f : Nat → α) (n : Nat) : set f n (f n) = f := by
  funext k; unfold set
  by_cases e : k = n
  · rw [if_pos e, e]
  · rw [if_neg e]
/-- A source has gone out of service. -/
theorem fin_bits {u v s s' : Nat} {S : St} {n : Nat} (hu : Bits u S.up) (hv : Bits v (fun k => S.st k == 1)) (hs : Bits s' (set (fun k => S.st k == 2) n false)) (hi : InvS S) (hok : OkS S) (hn : 1 ≤ n ∧ n < 9) (hst : S.st n = 2) :
    Bits (v ||| (u &&& (18446744073709551615 - s'))) (fun k => (comeF (S.setSt n 0) n).st k == 1) ∧ Bits s' (fun k => (comeF (S.setSt n 0) n).st k == 2) ∧ Bits u (comeF (S.setSt n 0) n).up ∧ InvS (comeF (S.setSt n 0) n) := by
  have e : (S.setSt n 0).setUp n (S.up n) = S.setSt n 0 := by
    show St.mk (set S.up n (S.up n)) _ _ _ _ = _
    rw [set_self]; rfl
  have h := come_bits2 (u := u) (v := v) (s := s') (S := S.setSt n 0) (n := n) (x := S.up n) (by show Bits u (set S.up n (S.up n)); rw [set_self]; exact hu)
    (hv.congr fun k _ => by
      show _ = (set S.st n 0 k == 1)
      by_cases q : k = n
      · subst q; rw [set_same2, hst]; rfl
      · rw [set_ne2 _ _ _ _ q])
    (hs.congr fun k _ => by
      show _ = (set S.st n 0 k == 2)
      by_cases q : k = n
      · subst q; rw [set_same2, set_same2]; rfl
      · rw [set_ne2 _ _ _ _ q, set_ne2 _ _ _ _ q])
    ⟨fun k hk hu => by
      show set S.st n 0 k ≠ 0
      rw [set_ne2 _ _ _ _ hk]; exact hi.1 k hu, hi.2.1, by
      show set S.st n 0 0 = 0
      rw [set_ne2 _ _ _ _ (by omega)]; exact hi.2.2.1, hi.2.2.2⟩ (by
      refine ⟨hok.1, hok.2.1, hok.2.2.1, fun k => ?_⟩
      show set S.st n 0 k < 3
      by_cases q : k = n
      · subst q; rw [set_same2]; decide
      · rw [set_ne2 _ _ _ _ q]; exact hok.2.2.2 k) hn
  rw [e] at h
  exact h
end Go.Proofs.YtoicpikkcefheaaGreat.P
