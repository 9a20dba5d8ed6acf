/- Sort of at most twelve numbers. -/
import Derived.Test.YtibgdlianedcbaaB12
import Derived.Test.YtibgdlianedcbaaShelf
namespace Go.Proofs.Ytibgdlianedcbaa
open Go.Maps Go.WideMaps Go.ChangeShapes Go.WideShapes Go.ChangeAt Go.RowKit
set_option linter.unusedVariables false
set_option linter.unusedSimpArgs false
theorem pdq12 (g n c : Nat) (l : Int) (X : Nat → Nat) (w : World) (hR : Hid (RowU w g n X)) (hn : (n : Int) ≤ 12) :
    Calls Try.prog 33 #[.slice (some ⟨g, 0, none⟩) n c, .int .i64 0, .int .i64 n, .int .i64 l] w (fun e w' => e = .returned (.tuple #[]) ∧ Sorting g n 0 n X w w') := by
  have HN : Hid (n ≤ 12) := by show _ ≤ _; omega
  go_enter Try.func33, Try.ntmps33
  go_wp2_with fail
  refine wp_loop_rounds 1 ?_
  rw [rounds_succ]
  go_wp2_with fail
  refine (ins_c g n c 0 n X w hR (Lib.hid ⟨Nat.zero_le _, Nat.le_refl _⟩) (Lib.hid (by have := HN.out; omega))).mono ?_; rintro e w1 ⟨rfl, hs⟩
  have HS := Lib.hid hs
  clear hs
  go_wp2_with fail
  exact bodyPost_ret (v := .tuple #[]) (by simp [results, Try.results33, go_sem] <;> (first | rfl | (repeat' (first | rfl | apply And.intro)))) rfl ⟨rfl, HS.out⟩
theorem sort12 (g n c : Nat) (X : Nat → Nat) (w : World) (hR : Hid (RowU w g n X)) (hn : (n : Int) ≤ 12) :
    Calls Try.prog 29 #[.slice (some ⟨g, 0, none⟩) n c] w (fun e w' => e = .returned (.tuple #[]) ∧ Sorting g n 0 n X w w') := by
  go_enter Try.func29, Try.ntmps29
  go_wp2_with fail
  refine (Try.bits_Len n _ (by omega) (by omega)).mono ?_; rintro e w1 ⟨rfl, h1⟩
  subst h1
  go_wp2_with fail
  refine (pdq12 g n c _ X _ hR hn).mono ?_; rintro e w2 ⟨rfl, hs⟩
  have HS := Lib.hid hs
  clear hs
  go_wp2_with fail
  go_end0
  exact ⟨rfl, HS.out⟩
end Go.Proofs.Ytibgdlianedcbaa
