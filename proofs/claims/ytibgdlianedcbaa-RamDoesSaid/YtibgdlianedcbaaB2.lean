/- What a look-up in a memory finds. -/
import Derived.Test.YtibgdlianedcbaaB1
namespace Go.Proofs.Ytibgdlianedcbaa
open Go.Maps Go.WideMaps Go.ChangeShapes Go.WideShapes Go.ChangeAt Go.RowKit
set_option linter.unusedVariables false
set_option linter.unusedSimpArgs false
theorem Mem.kept {w w' : World} {m : Nat} {F : Nat → Nat} (h : Mem w m F) (hb : Below w.heap.size w w') : Mem w' m F := by
  obtain ⟨h0, b, n, D, h1, h2, h3, h4, h5⟩ := h
  refine ⟨Nat.lt_of_lt_of_le h0 hb.size, b, n, D, ?_, h2.kept (grown_below hb) (by simp), fun s hs hh => ?_, h4, h5⟩
  · rw [hb.cell (p := ⟨m, 0, none⟩) h0]; exact h1
  · obtain ⟨p, q1, q2⟩ := h3 s hs hh
    exact ⟨p, q1, q2.kept (grown_below hb) (by simp)⟩
/-- A look-up: the page, or none; however often the world has drawn. -/
theorem Mem.look {w : World} {m : Nat} {F : Nat → Nat} (h : Mem w m F) : ∃ b, w.cell? ⟨m, 0, none⟩ = some (.map (some b)) ∧ ∀ s : Nat, s < 18446744073709551616 → s % 4096 = 0 →
    ((∃ p, (∀ j, (Instr.lookup 47 (.map (some b)) (.agg #[.int .u64 s]) true).run Try.prog (w.drewN j) = .ok (.tuple #[.pointer (some ⟨p, 0, none⟩), .bool true]) (w.drewN j)) ∧ PageIs w p (fun i => F (s + i))) ∨
     ((∀ j, (Instr.lookup 47 (.map (some b)) (.agg #[.int .u64 s]) true).run Try.prog (w.drewN j) = .ok (.tuple #[.pointer none, .bool false]) (w.drewN j)) ∧ ∀ i, i < 4096 → F (s + i) = 0)) := by
  obtain ⟨h0, b, n, D, h1, h2, h3, h4, h5⟩ := h
  refine ⟨b, h1, fun s hs ha => ?_⟩
  have run : ∀ j, ∃ v ps, (Instr.lookup 47 (.map (some b)) (.agg #[.int .u64 s]) true).run Try.prog (w.drewN j) = .ok (.tuple #[v, .bool (Maps.has D (keyL s))]) (w.drewN j) ∧ pageR v = some (D.atKey (keyL s) noneD, ps) := fun j =>
    (h2.kept (grown_below (below_drewN (Below.refl _ _) j)) (by simp)).look_ok lawSpot Try.underlying47 (zeroPage _) pageR_none (keySpot s (wfU hs))
  cases hh : Maps.has D (keyL s)
  · refine Or.inr ⟨fun j => ?_, h4 s hs ha hh⟩
    obtain ⟨v, ps, hr, hv⟩ := run j
    rw [hh] at hr
    have hn : D.atKey (keyL s) noneD = noneD := Maps.atKey_of_not_has hh _
    rw [hn] at hv
    obtain rfl := pageR_inv_none hv
    exact hr
  · obtain ⟨p, q1, q2⟩ := h3 s hs hh
    refine Or.inl ⟨p, fun j => ?_, q2⟩
    obtain ⟨v, ps, hr, hv⟩ := run j
    rw [hh] at hr
    rw [q1] at hv
    obtain rfl := pageR_inv hv
    exact hr
end Go.Proofs.Ytibgdlianedcbaa
