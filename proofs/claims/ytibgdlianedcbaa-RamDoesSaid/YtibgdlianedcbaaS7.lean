/- The choice of a pivot. -/
import Derived.Test.YtibgdlianedcbaaS6
import Derived.Test.YtibgdlianedcbaaB15
namespace Go.Proofs.Ytibgdlianedcbaa
open Go.Maps Go.WideMaps Go.ChangeShapes Go.WideShapes Go.ChangeAt Go.RowKit
set_option linter.unusedVariables false
set_option linter.unusedSimpArgs false
/-- A counter of swaps in a block of its own. -/
def Cnt (w0 w : World) (q s : Nat) : Prop := Below w0.heap.size w0 w ∧ w0.heap.size ≤ q ∧ w.cell? ⟨q, 0, none⟩ = some (.int .i64 s) ∧ w.frozen? ⟨q, 0, none⟩ = false
def RetOrd (w0 : World) (q s x y : Nat) (e : Ending) (w' : World) : Prop := ∃ u v s' : Nat, e = .returned (.tuple #[.int .i64 u, .int .i64 v]) ∧ Hid ((u = x ∧ v = y) ∨ (u = y ∧ v = x)) ∧ Hid (s' ≤ s + 1 ∧ Cnt w0 w' q s')
set_option maxHeartbeats 4000000 in
theorem order_c (g n c0 q s x y : Nat) (X : Nat → Nat) (w0 w : World) (hR : Hid (RowU w0 g n X)) (hC : Hid (Cnt w0 w q s)) (hs : Hid (s ≤ 100 ∧ x < n ∧ y < n ∧ n < 1152921504606846976)) :
    Calls Try.prog 52 #[.slice (some ⟨g, 0, none⟩) n c0, .int .i64 x, .int .i64 y, .pointer (some ⟨q, 0, none⟩)] w (RetOrd w0 q s x y) := by
  have xN := hs.out.2.1
  have yN := hs.out.2.2.1
  have xNI : (x : Int) < n := by omega
  have yNI : (y : Int) < n := by omega
  have s9 : (s : Int) ≤ 100 := by have := hs.out; omega
  have HR := Lib.hid (hR.out.below hC.out.1)
  have cx := HR.out.cell x xN
  have cy := HR.out.cell y yN
  have cq := hC.out.2.2.1
  have zq := hC.out.2.2.2
  go_enter Try.func52, Try.ntmps52
  go_wp2_with fail
  cases hq : decide (X y < X x)
  · have HL := Lib.hid hq
    clear hq
    go_quiet ((go_at_call 41; exact Calls.quiet_of_same (less_c _ _ false HL _)))
    go_wp2_with fail
    exact bodyPost_ret (v := .tuple #[.int .i64 x, .int .i64 y]) (by simp [results, Try.results52, go_sem] <;> (first | rfl | (repeat' (first | rfl | apply And.intro)))) rfl ⟨x, y, s, rfl, Or.inl ⟨rfl, rfl⟩, by omega, below_drewN hC.out.1 _, hC.out.2.1, cq, zq⟩
  · have HL := Lib.hid hq
    clear hq
    go_quiet ((go_at_call 41; exact Calls.quiet_of_same (less_c _ _ true HL _)))
    go_wp2_with fail
    refine bodyPost_ret (v := .tuple #[.int .i64 y, .int .i64 x]) (by simp [results, Try.results52, go_sem] <;> (first | rfl | (repeat' (first | rfl | apply And.intro)))) rfl ⟨y, x, s + 1, rfl, Or.inr ⟨rfl, rfl⟩, by omega, (below_drewN hC.out.1 _).setCell hC.out.2.1 _, hC.out.2.1, ?_, ?_⟩
    · rw [World.cell?_setCell_same _ _ _ (show World.cell? (w.drewN _) _ = _ from cq)]; congr 2
    · rw [World.frozen?_setCell]; exact zq
def RetMed (w0 : World) (q s x y z : Nat) (e : Ending) (w' : World) : Prop := ∃ u s' : Nat, e = .returned (.int .i64 u) ∧ Hid (u = x ∨ u = y ∨ u = z) ∧ Hid (s' ≤ s + 3 ∧ Cnt w0 w' q s')
set_option maxHeartbeats 4000000 in
theorem median_c (g n c0 q s x y z : Nat) (X : Nat → Nat) (w0 w : World) (hR : Hid (RowU w0 g n X)) (hC : Hid (Cnt w0 w q s)) (hs : Hid (s ≤ 90 ∧ x < n ∧ y < n ∧ z < n ∧ n < 1152921504606846976)) :
    Calls Try.prog 50 #[.slice (some ⟨g, 0, none⟩) n c0, .int .i64 x, .int .i64 y, .int .i64 z, .pointer (some ⟨q, 0, none⟩)] w (RetMed w0 q s x y z) := by
  go_enter Try.func50, Try.ntmps50
  go_wp2_with fail
  refine (order_c g n c0 q s x y X w0 w hR hC (by have := hs.out; show _ ∧ _; omega)).mono ?_; rintro e w1 ⟨u1, v1, s1, rfl, h1, k1⟩
  go_wp2_with fail
  refine (order_c g n c0 q s1 v1 z X w0 w1 hR k1.out.2 (by have := hs.out; have := h1.out; have := k1.out.1; show _ ∧ _; omega)).mono ?_; rintro e w2 ⟨u2, v2, s2, rfl, h2, k2⟩
  go_wp2_with fail
  refine (order_c g n c0 q s2 u1 u2 X w0 w2 hR k2.out.2 (by have := hs.out; have := h1.out; have := h2.out; have := k1.out.1; have := k2.out.1; show _ ∧ _; omega)).mono ?_; rintro e w3 ⟨u3, v3, s3, rfl, h3, k3⟩
  go_wp2_with fail
  exact bodyPost_ret (v := .int .i64 v3) (by simp [results, Try.results50, go_sem] <;> (first | rfl | (repeat' (first | rfl | apply And.intro)))) rfl ⟨v3, s3, rfl, by have := h1.out; have := h2.out; have := h3.out; show _ ∨ _; omega, by have := k1.out.1; have := k2.out.1; have := k3.out.1; omega, k3.out.2⟩
set_option maxHeartbeats 4000000 in
theorem adj_c (g n c0 q s x : Nat) (X : Nat → Nat) (w0 w : World) (hR : Hid (RowU w0 g n X)) (hC : Hid (Cnt w0 w q s)) (hs : Hid (s ≤ 90 ∧ 0 < x ∧ x + 1 < n ∧ n < 1152921504606846976)) :
    Calls Try.prog 49 #[.slice (some ⟨g, 0, none⟩) n c0, .int .i64 x, .pointer (some ⟨q, 0, none⟩)] w (RetMed w0 q s (x - 1) x (x + 1)) := by
  obtain ⟨k, hk⟩ : ∃ k, k = x - 1 := ⟨_, rfl⟩
  have ek : (x : Int) - 1 = (k : Int) := by have := hs.out; omega
  obtain ⟨l, hl⟩ : ∃ l, l = x + 1 := ⟨_, rfl⟩
  have el : (x : Int) + 1 = (l : Int) := by omega
  have HK : Hid (k = x - 1 ∧ l = x + 1) := ⟨hk, hl⟩
  have nI : (n : Int) < 1152921504606846976 := by have := hs.out; omega
  have xNI : (x : Int) < n := by have := hs.out; omega
  clear hk hl
  go_enter Try.func49, Try.ntmps49
  go_wp2_with fail
  refine (median_c g n c0 q s k x l X w0 w hR hC (by have := hs.out; have := HK.out; show _ ∧ _; omega)).mono ?_; rintro e w1 ⟨u1, s1, rfl, h1, k1⟩
  go_wp2_with fail
  exact bodyPost_ret (v := .int .i64 u1) (by simp [results, Try.results49, go_sem] <;> (first | rfl | (repeat' (first | rfl | apply And.intro)))) rfl ⟨u1, s1, rfl, by have := h1.out; have := HK.out; show _ ∨ _; omega, k1.out⟩
end Go.Proofs.Ytibgdlianedcbaa
