/- An image of any length laid. -/
import Derived.Test.YtibgdlianedcbaaE1
import Derived.Test.YtibgdlianedcbaaC1
import Derived.Test.YtibgdlianedcbaaS12
namespace Go.Proofs.Ytibgdlianedcbaa
open Go.Maps Go.WideMaps Go.ChangeShapes Go.WideShapes Go.ChangeAt Go.RowKit
set_option linter.unusedVariables false
set_option linter.unusedSimpArgs false
theorem put_zero (m a c : Nat) (s : Option Addr) (w : World) : Calls Try.prog 25 #[.pointer (some ⟨m, 0, none⟩), .int .u64 a, .slice s 0 c] w (fun e w' => e = .returned (.tuple #[]) ∧ w' = w) := by
  go_enter Try.func25, Try.ntmps25
  go_wp2_with fail
  refine wp_loop_rounds 1 ?_
  rw [rounds_succ]
  go_wp2_with fail
  go_end0
  exact ⟨rfl, rfl⟩
theorem lay_zero (m c : Nat) (s : Option Addr) (w : World) : Calls Try.prog 10 #[.pointer (some ⟨m, 0, none⟩), .slice s 0 c] w (fun e w' => e = .returned (.bool true) ∧ w' = w) := by
  go_enter Try.func10, Try.ntmps10
  go_wp2_with fail
  refine (put_zero m 2147483648 c s w).mono ?_; rintro e w1 ⟨rfl, hb⟩
  go_wp2_with fail
  go_ret
  exact ⟨rfl, rfl⟩
theorem lay_u (S : Nat → Prop) (m g o n c : Nat) (sa : Option Addr) (R : Nat → Nat) (w : World) (hM : Hid (MemS S w m (fun _ => 0))) (hSb : Hid (∀ i, S i → i < w.heap.size)) (hg : Hid (0 < n → sa = some ⟨g, o, none⟩ ∧ g < w.heap.size ∧ ¬ S g)) (hn : Hid (n ≤ 1048576)) (hnc : Hid (n ≤ c)) (hr : Hid (∀ i, i < n → w.cell? ⟨g, o + i, none⟩ = some (.int .u8 (R i)))) :
    Calls Try.prog 10 #[.pointer (some ⟨m, 0, none⟩), .slice sa n c] w (RetLay S m n (fun _ => 0) R w) := by
  by_cases h0 : n = 0
  · subst h0
    refine (lay_zero m c sa w).mono ?_; rintro e w1 ⟨rfl, h1⟩
    subst h1
    exact ⟨rfl, S, by rw [layF_zero]; exact hM.out, Own.below (Below.refl _ _), fun i hi => ⟨hSb.out i hi, Or.inl hi⟩⟩
  · obtain ⟨h1, h2, h3⟩ := hg.out (by omega)
    subst h1
    exact lay_c S m g o n c _ R w hM hSb (Lib.hid ⟨h2, h3⟩) hn hnc hr
end Go.Proofs.Ytibgdlianedcbaa
