/- What put's look-ups find, by what the map names. -/
import Derived.Test.YtibgdlianedcbaaB5
namespace Go.Proofs.Ytibgdlianedcbaa
open Go.Maps Go.WideMaps Go.ChangeShapes Go.WideShapes Go.ChangeAt Go.RowKit
set_option linter.unusedVariables false
set_option linter.unusedSimpArgs false
theorem MemD.look {S : Nat → Prop} {w : World} {m b : Nat} {D : DataW Unit} {F : Nat → Nat} (h : MemD S w m b D F) (s : Nat) (hs : s < 18446744073709551616) :
    (∃ p, Maps.has D (keyL s) = true ∧ D.atKey (keyL s) noneD = pageD p ∧ PageIs w p (fun i => F (s + i)) ∧
      (∀ j, (Instr.lookup 47 (.map (some b)) (.agg #[.int .u64 s]) true).run Try.prog (w.drewN j) = .ok (.tuple #[.pointer (some ⟨p, 0, none⟩), .bool true]) (w.drewN j)) ∧
      (∀ j, (Instr.lookup 47 (.map (some b)) (.agg #[.int .u64 s]) false).run Try.prog (w.drewN j) = .ok (.pointer (some ⟨p, 0, none⟩)) (w.drewN j))) ∨
    (Maps.has D (keyL s) = false ∧ ∀ j, (Instr.lookup 47 (.map (some b)) (.agg #[.int .u64 s]) true).run Try.prog (w.drewN j) = .ok (.tuple #[.pointer none, .bool false]) (w.drewN j)) := by
  obtain ⟨h0, hm, h1, hb, hne, h2, ⟨h3, h4, h5⟩, h6⟩ := h
  have own : ∀ j, (w.drewN j).ownsMap Try.prog 58 pageR b (cntD D) D := fun j => h2.kept (grown_below (below_drewN (Below.refl _ _) j)) (by simp)
  cases hh : Maps.has D (keyL s)
  · refine Or.inr ⟨rfl, fun j => ?_⟩
    obtain ⟨v, ps, hr, hv⟩ := (own j).look_ok lawSpot Try.underlying47 (zeroPage _) pageR_none (keySpot s (wfU hs))
    rw [hh] at hr
    have hn : D.atKey (keyL s) noneD = noneD := Maps.atKey_of_not_has hh _
    rw [hn] at hv
    obtain rfl := pageR_inv_none hv
    exact hr
  · obtain ⟨p, q1, q2⟩ := h3 s hs hh
    refine Or.inl ⟨p, rfl, q1, q2, fun j => ?_, fun j => ?_⟩
    · obtain ⟨v, ps, hr, hv⟩ := (own j).look_ok lawSpot Try.underlying47 (zeroPage _) pageR_none (keySpot s (wfU hs))
      rw [hh] at hr
      rw [q1] at hv
      obtain rfl := pageR_inv hv
      exact hr
    · obtain ⟨v, ps, hr, hv⟩ := (own j).lookup lawSpot Try.underlying47 (zeroPage _) pageR_none (keySpot s (wfU hs))
      rw [q1] at hv
      obtain rfl := pageR_inv hv
      exact hr
/-- A row laid over the bytes. -/
def layF (F : Nat → Nat) (a k : Nat) (R : Nat → Nat) : Nat → Nat := fun x => if a ≤ x ∧ x < a + k then R (x - a) else F x
theorem layF_zero (F : Nat → Nat) (a : Nat) (R : Nat → Nat) : layF F a 0 R = F := by
  funext x; unfold layF; rw [if_neg (by omega)]
theorem layF_more (F : Nat → Nat) (a k t s f : Nat) (R : Nat → Nat) (h : a + k = s + f) : (fun x => if s + f ≤ x ∧ x < s + f + t then R (k + (x - (s + f))) else layF F a k R x) = layF F a (k + t) R := by
  funext x
  unfold layF
  by_cases c : s + f ≤ x ∧ x < s + f + t
  · rw [if_pos c, if_pos (by omega), show k + (x - (s + f)) = x - a by omega]
  · rw [if_neg c]
    by_cases d : a ≤ x ∧ x < a + k
    · rw [if_pos d, if_pos (by omega)]
    · rw [if_neg d, if_neg (by omega)]
end Go.Proofs.Ytibgdlianedcbaa
