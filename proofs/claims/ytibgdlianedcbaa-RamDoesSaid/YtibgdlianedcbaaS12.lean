/- slices.Sort of numbers, however many. -/
import Derived.Test.YtibgdlianedcbaaS11
import Derived.Test.YtibgdlianedcbaaB14
namespace Go.Proofs.Ytibgdlianedcbaa
open Go.Maps Go.WideMaps Go.ChangeShapes Go.WideShapes Go.ChangeAt Go.RowKit
set_option linter.unusedVariables false
set_option linter.unusedSimpArgs false
theorem pdq_all (g n c0 N : Nat) : PdqOk g n c0 N := by
  induction N using Nat.strongRecOn with
  | ind N ih => exact pdq_step g n c0 N ih
theorem sort_ok (n : Nat) (h : n < 1152921504606846976) : SortOk n := fun g c X w hR => by
  have hn : (n : Int) < 1152921504606846976 := by omega
  have HN := Lib.hid h
  have HR := Lib.hid hR
  clear hR h
  go_enter Try.func29, Try.ntmps29
  go_wp2_with fail
  refine (Try.bits_Len n _ (by omega) (by omega)).mono ?_; rintro e w1 ⟨rfl, h1⟩
  subst h1
  obtain ⟨m, hm⟩ : ∃ m, m = Lib.bitLen (n : Int).toNat := ⟨_, rfl⟩
  rw [← hm]
  have HM : Hid (m ≤ 60) := by rw [hm]; exact Lib.bitLen_le n 60 (by decide) (by have := HN.out; omega)
  clear hm
  go_wp2_with fail
  refine (pdq_all g n c n 0 n m X w1 (Lib.hid (by omega)) HR (by have := HM.out; have := HN.out; show _ ∧ _; omega) (Lib.hid (Or.inl rfl))).mono ?_; rintro e w2 ⟨rfl, hs⟩
  have HS := Lib.hid hs
  clear hs
  go_wp2_with fail
  go_end0
  exact ⟨rfl, HS.out⟩
end Go.Proofs.Ytibgdlianedcbaa
