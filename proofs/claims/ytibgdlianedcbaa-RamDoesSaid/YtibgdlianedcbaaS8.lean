/- The choice of a pivot: choosePivot. -/
import Derived.Test.YtibgdlianedcbaaS7
namespace Go.Proofs.Ytibgdlianedcbaa
open Go.Maps Go.WideMaps Go.ChangeShapes Go.WideShapes Go.ChangeAt Go.RowKit
set_option linter.unusedVariables false
set_option linter.unusedSimpArgs false
def RetPiv (a b : Nat) (w : World) (e : Ending) (w' : World) : Prop := ∃ p h : Nat, e = .returned (.tuple #[.int .i64 p, .int .i64 h]) ∧ Hid (a ≤ p ∧ p < b) ∧ Hid (h ≤ 2) ∧ Hid (Below w.heap.size w w')
set_option maxRecDepth 100000 in
set_option maxHeartbeats 4000000 in
theorem piv_c (g n c0 a b : Nat) (X : Nat → Nat) (w : World) (hR : Hid (RowU w g n X)) (hb : Hid (a + 12 < b ∧ b ≤ n ∧ n < 1152921504606846976)) :
    Calls Try.prog 38 #[.slice (some ⟨g, 0, none⟩) n c0, .int .i64 a, .int .i64 b] w (RetPiv a b w) := by
  obtain ⟨L, hL⟩ : ∃ L, L = b - a := ⟨_, rfl⟩
  have eL : (b : Int) - (a : Int) = (L : Int) := by have := hb.out; omega
  obtain ⟨Q, hQ⟩ : ∃ Q, Q = L / 4 := ⟨_, rfl⟩
  have eQ : (L : Int) / 4 = (Q : Int) := by omega
  have eQ' : (L : Int).tdiv 4 = (Q : Int) := by rw [Int.tdiv_eq_ediv_of_nonneg (by omega)]; exact eQ
  obtain ⟨Q2, hQ2⟩ : ∃ Q2, Q2 = Q * 2 := ⟨_, rfl⟩
  have eQ2 : (Q : Int) * 2 = (Q2 : Int) := by omega
  obtain ⟨Q3, hQ3⟩ : ∃ Q3, Q3 = Q * 3 := ⟨_, rfl⟩
  have eQ3 : (Q : Int) * 3 = (Q3 : Int) := by omega
  obtain ⟨i, hi⟩ : ∃ i, i = a + Q := ⟨_, rfl⟩
  have ei : (a : Int) + (Q : Int) = (i : Int) := by omega
  obtain ⟨j, hj⟩ : ∃ j, j = a + Q2 := ⟨_, rfl⟩
  have ej : (a : Int) + (Q2 : Int) = (j : Int) := by omega
  obtain ⟨k, hk⟩ : ∃ k, k = a + Q3 := ⟨_, rfl⟩
  have ek : (a : Int) + (Q3 : Int) = (k : Int) := by omega
  have HB : Hid (a + 3 ≤ i ∧ i < b ∧ a ≤ j ∧ j < b ∧ a ≤ k ∧ k + 3 ≤ b ∧ i + 1 < n ∧ j + 1 < n ∧ k + 1 < n ∧ 0 < i ∧ 0 < j ∧ 0 < k ∧ 12 < L ∧ i + 1 < b ∧ j + 1 < b ∧ a + 1 ≤ i ∧ a + 1 ≤ j ∧ a + 1 ≤ k) := by have := hb.out; show _ ∧ _; omega
  have nI : (n : Int) < 1152921504606846976 := by have := hb.out; omega
  have bn : (b : Int) ≤ n := by have := hb.out; omega
  have an : (a : Int) < n := by have := hb.out; omega
  have Ln : (L : Int) ≤ n := by have := hb.out; omega
  have Qn : (Q : Int) ≤ n := by omega
  have Q2n : (Q2 : Int) ≤ n := by omega
  have Q3n : (Q3 : Int) ≤ n := by omega
  have i_n : (i : Int) < n := by have := HB.out; omega
  have j_n : (j : Int) < n := by have := HB.out; omega
  have k_n : (k : Int) < n := by have := HB.out; omega
  have L8 : decide ((8 : Int) ≤ L) = true := decide_eq_true (by have := HB.out; omega)
  clear hL hQ hQ2 hQ3 hi hj hk
  go_enter Try.func38, Try.ntmps38
  have HA : Hid (Cnt w (w.alloc (.cells #[.int .i64 0] 3)) w.heap.size 0) := by
    refine ⟨(Below.refl _ _).alloc (Nat.le_refl _) _, Nat.le_refl _, ?_, ?_⟩
    · rw [World.cell?_alloc_at _ _ _ _ rfl]; rfl
    · rw [World.frozen?_alloc_at _ _ _ _ rfl]
  cases h50 : decide ((50 : Int) ≤ L)
  · go_wp2_with fail
    refine (median_c g n c0 w.heap.size 0 i j k X w (w.alloc (.cells #[.int .i64 0] 3)) hR HA (by have := HB.out; show _ ∧ _; omega)).mono ?_; rintro e w9 ⟨u, s9, rfl, h9, k9⟩
    have cq := k9.out.2.2.2.1
    have H9 : Hid (a ≤ u ∧ u < b) := by have := HB.out; have := h9.out; show _ ∧ _; omega
    have HBW := Lib.hid k9.out.2.1
    clear h9 k9
    by_cases z0 : s9 = 0
    · subst z0
      go_wp2_with fail
      exact bodyPost_ret (v := .tuple #[.int .i64 u, .int .i64 1]) (by simp [results, Try.results38, go_sem] <;> (first | rfl | (repeat' (first | rfl | apply And.intro)))) rfl ⟨u, 1, rfl, H9, Lib.hid (by decide), HBW⟩
    · have b0 : ((s9 : Int) == 0) = false := by rw [beq_eq_false_iff_ne]; omega
      by_cases z1 : s9 = 12
      · subst z1
        go_wp2_with fail
        exact bodyPost_ret (v := .tuple #[.int .i64 u, .int .i64 2]) (by simp [results, Try.results38, go_sem] <;> (first | rfl | (repeat' (first | rfl | apply And.intro)))) rfl ⟨u, 2, rfl, H9, Lib.hid (by decide), HBW⟩
      · have b1 : ((s9 : Int) == 12) = false := by rw [beq_eq_false_iff_ne]; omega
        clear z0 z1
        go_wp2_with fail
        exact bodyPost_ret (v := .tuple #[.int .i64 u, .int .i64 0]) (by simp [results, Try.results38, go_sem] <;> (first | rfl | (repeat' (first | rfl | apply And.intro)))) rfl ⟨u, 0, rfl, H9, Lib.hid (by decide), HBW⟩
  · have H50 := Lib.hid (of_decide_eq_true h50)
    go_wp2_with fail
    refine (adj_c g n c0 w.heap.size 0 i X w (w.alloc (.cells #[.int .i64 0] 3)) hR HA (by have := HB.out; show _ ∧ _; omega)).mono ?_; rintro e w1 ⟨u1, s1, rfl, h1, k1⟩
    go_wp2_with fail
    refine (adj_c g n c0 w.heap.size s1 j X w w1 hR k1.out.2 (by have := HB.out; have := k1.out.1; show _ ∧ _; omega)).mono ?_; rintro e w2 ⟨u2, s2, rfl, h2, k2⟩
    go_wp2_with fail
    refine (adj_c g n c0 w.heap.size s2 k X w w2 hR k2.out.2 (by have := HB.out; have := k1.out.1; have := k2.out.1; show _ ∧ _; omega)).mono ?_; rintro e w3 ⟨u3, s3, rfl, h3, k3⟩
    go_wp2_with fail
    refine (median_c g n c0 w.heap.size s3 u1 u2 u3 X w w3 hR k3.out.2 (by have := HB.out; have := h1.out; have := h2.out; have := h3.out; have := k1.out.1; have := k2.out.1; have := k3.out.1; show _ ∧ _; omega)).mono ?_; rintro e w9 ⟨u, s9, rfl, h9, k9⟩
    have cq := k9.out.2.2.2.1
    have H9 : Hid (a ≤ u ∧ u < b) := by have := HB.out; have := h9.out; have := h1.out; have := h2.out; have := h3.out; show _ ∧ _; omega
    have HBW := Lib.hid k9.out.2.1
    clear h9 k9
    by_cases z0 : s9 = 0
    · subst z0
      go_wp2_with fail
      exact bodyPost_ret (v := .tuple #[.int .i64 u, .int .i64 1]) (by simp [results, Try.results38, go_sem] <;> (first | rfl | (repeat' (first | rfl | apply And.intro)))) rfl ⟨u, 1, rfl, H9, Lib.hid (by decide), HBW⟩
    · have b0 : ((s9 : Int) == 0) = false := by rw [beq_eq_false_iff_ne]; omega
      by_cases z1 : s9 = 12
      · subst z1
        go_wp2_with fail
        exact bodyPost_ret (v := .tuple #[.int .i64 u, .int .i64 2]) (by simp [results, Try.results38, go_sem] <;> (first | rfl | (repeat' (first | rfl | apply And.intro)))) rfl ⟨u, 2, rfl, H9, Lib.hid (by decide), HBW⟩
      · have b1 : ((s9 : Int) == 12) = false := by rw [beq_eq_false_iff_ne]; omega
        clear z0 z1
        go_wp2_with fail
        exact bodyPost_ret (v := .tuple #[.int .i64 u, .int .i64 0]) (by simp [results, Try.results38, go_sem] <;> (first | rfl | (repeat' (first | rfl | apply And.intro)))) rfl ⟨u, 0, rfl, H9, Lib.hid (by decide), HBW⟩
end Go.Proofs.Ytibgdlianedcbaa
