/- The contracts of what is no number, and of products. -/
import Derived.Test.YthjdeopfbjmmeaaB3
namespace Go.Proofs.Ythjdeopfbjmmeaa
open Go.ChangeShapes Go.WideShapes Go.ChangeAt Go.RowKit
set_option linter.unusedVariables false
set_option linter.unusedSimpArgs false
theorem noughtAndInfinity_c (c : Int) (m : Bool) (x : Int) (h l : Nat) (c' : Int) (m' : Bool) (x' : Int) (h' l' : Nat) (w : World) :
    Calls Try.prog 43 #[.agg #[.int .i64 c, .bool m, .int .i64 x, .int .u64 h, .int .u64 l], .agg #[.int .i64 c', .bool m', .int .i64 x', .int .u64 h', .int .u64 l']] w (RetB (decide (c = 0 ∧ c' = 2 ∨ c = 2 ∧ c' = 0)) w) := by
  go_enter Try.func43, Try.ntmps43
  go_wp2
  all_goals go_ret
  all_goals refine retB_mk ?_ (by repeat (first | (with_reducible first | exact Below.refl _ _ | assumption | exact Nat.le_refl _ | refine Below.drew ?_ | refine Below.alloc ?_ ?_ _ | refine Below.setCell ?_ ?_ _ | refine le_alloc ?_ | refine le_set ?_ | refine le_drew ?_ | refine below_step (by assumption) ?_ ?_ | refine le_below (by assumption) ?_) | (dsimp only; omega)))
  all_goals (rw [Bool.eq_iff_iff]; simp only [beq_iff_eq, decide_eq_true_eq, Bool.false_eq_true, true_iff, false_iff]; omega)
def flagV (c1 c2 : Int) : Int := if c1 = 4 ∨ c2 = 4 then 16 else 0
def someV (c1 c2 : Int) : Bool := decide (c1 = 4 ∨ c1 = 3 ∨ c2 = 4 ∨ c2 = 3)
def RetF (c1 c2 : Int) (W : World) (e : Ending) (w' : World) : Prop := e = .returned (.tuple #[.int .i64 (flagV c1 c2), .bool (someV c1 c2)]) ∧ Below W.heap.size W w'
theorem retF_mk {c1 c2 n : Int} {b : Bool} {W w' : World} (hn : n = flagV c1 c2) (hb : b = someV c1 c2) (h : Below W.heap.size W w') : RetF c1 c2 W (.returned (.tuple #[.int .i64 n, .bool b])) w' := ⟨by rw [hn, hb], h⟩
theorem noNumbers_1 (c : Int) (m : Bool) (x : Int) (h l : Nat) (w : World) (a : Nat) (ha : a < w.heap.size) (h0 : ∀ o, w.cell? ⟨a, o, none⟩ = (#[.int .i64 c, .bool m, .int .i64 x, .int .u64 h, .int .u64 l] : Array Value)[o]?) :
    Calls Try.prog 46 #[.slice (some ⟨a, 0, none⟩) 1 1] w (RetF c 0 w) := by
  go_enter Try.func46, Try.ntmps46
  go_wp2
  refine wp_loop_rounds 2 ?_
  rw [rounds_succ]
  go_wp2
  all_goals rw [rounds_succ]
  all_goals go_wp2
  all_goals go_ret2
  all_goals refine retF_mk ?_ ?_ (by repeat (first | (with_reducible first | exact Below.refl _ _ | assumption | exact Nat.le_refl _ | refine Below.drew ?_ | refine Below.alloc ?_ ?_ _ | refine Below.setCell ?_ ?_ _ | refine le_alloc ?_ | refine le_set ?_ | refine le_drew ?_ | refine below_step (by assumption) ?_ ?_ | refine le_below (by assumption) ?_) | (dsimp only; omega)))
  all_goals (try unfold flagV)
  all_goals (try unfold someV)
  all_goals (first | rfl | (simp_all; done) | (simp at *; omega))
set_option maxHeartbeats 1000000 in
theorem noNumbers_2 (c : Int) (m : Bool) (x : Int) (h l : Nat) (c' : Int) (m' : Bool) (x' : Int) (h' l' : Nat) (w : World) (a : Nat) (ha : a < w.heap.size) (h0 : ∀ o, w.cell? ⟨a, o, none⟩ = (#[.int .i64 c, .bool m, .int .i64 x, .int .u64 h, .int .u64 l, .int .i64 c', .bool m', .int .i64 x', .int .u64 h', .int .u64 l'] : Array Value)[o]?) :
    Calls Try.prog 46 #[.slice (some ⟨a, 0, none⟩) 2 2] w (RetF c c' w) := by
  go_enter Try.func46, Try.ntmps46
  go_wp2
  refine wp_loop_rounds 3 ?_
  rw [rounds_succ]
  go_wp2
  all_goals rw [rounds_succ]
  all_goals go_wp2
  all_goals rw [rounds_succ]
  all_goals go_wp2
  all_goals go_ret2
  all_goals refine retF_mk ?_ ?_ (by repeat (first | (with_reducible first | exact Below.refl _ _ | assumption | exact Nat.le_refl _ | refine Below.drew ?_ | refine Below.alloc ?_ ?_ _ | refine Below.setCell ?_ ?_ _ | refine le_alloc ?_ | refine le_set ?_ | refine le_drew ?_ | refine below_step (by assumption) ?_ ?_ | refine le_below (by assumption) ?_) | (dsimp only; omega)))
  all_goals (try unfold flagV)
  all_goals (try unfold someV)
  all_goals (first | rfl | (simp_all; done) | (simp at *; omega))
/-- The product of two numbers, as the code has it. -/
def productN (M N : Num) : Num :=
  if 2 ≤ M.cls ∨ 2 ≤ N.cls then ⟨max M.cls N.cls, M.minus != N.minus, 0, 0⟩
  else if M.cls = 1 ∧ N.cls = 1 then ⟨1, M.minus != N.minus, M.exp + N.exp, M.mag * N.mag⟩
  else ⟨0, M.minus != N.minus, 0, 0⟩
theorem productN_one {m : Bool} {x : Int} {h l : Nat} {M : Num} (hM : IsN 1 m x h l M) {m' : Bool} {x' : Int} {h' l' : Nat} {N : Num} (hN : IsN 1 m' x' h' l' N)
    (s1 : M.mag < 18446744073709551616) (s2 : N.mag < 18446744073709551616) {h1 l1 : Nat} (hI : IsW h1 l1 (l * l')) : IsN 1 (!(m == m')) (x + x') h1 l1 (productN M N) := by
  obtain ⟨a, b, c, d⟩ := hM; obtain ⟨a', b', c', d'⟩ := hN
  rw [d.low s1, d'.low s2] at hI
  unfold productN
  rw [if_neg (by omega), if_pos (by omega)]
  exact ⟨rfl, by rw [b, b']; rfl, by rw [c, c'], hI⟩
theorem productN_max {c : Int} {m : Bool} {x : Int} {h l : Nat} {M : Num} (hM : IsN c m x h l M) {c' : Int} {m' : Bool} {x' : Int} {h' l' : Nat} {N : Num} (hN : IsN c' m' x' h' l' N)
    (h : 2 ≤ c ∨ 2 ≤ c') : IsN (max c c') (!(m == m')) 0 0 0 (productN M N) := by
  obtain ⟨a, b, -, -⟩ := hM; obtain ⟨a', b', -, -⟩ := hN
  unfold productN
  rw [if_pos (by omega)]
  exact ⟨by simp only; omega, by rw [b, b']; rfl, rfl, by decide, by decide, rfl⟩
theorem productN_zero {c : Int} {m : Bool} {x : Int} {h l : Nat} {M : Num} (hM : IsN c m x h l M) {c' : Int} {m' : Bool} {x' : Int} {h' l' : Nat} {N : Num} (hN : IsN c' m' x' h' l' N)
    (h1 : ¬ (c = 1 ∧ c' = 1)) (h2 : ¬ 2 ≤ c) (h3 : ¬ 2 ≤ c') : IsN 0 (!(m == m')) 0 0 0 (productN M N) := by
  obtain ⟨a, b, -, -⟩ := hM; obtain ⟨a', b', -, -⟩ := hN
  unfold productN
  rw [if_neg (by omega), if_neg (by omega)]
  exact ⟨rfl, by rw [b, b']; rfl, rfl, by decide, by decide, rfl⟩
theorem product_c (c : Int) (m : Bool) (x : Int) (h l : Nat) (M : Num) (hM : Hid (IsN c m x h l M)) (c' : Int) (m' : Bool) (x' : Int) (h' l' : Nat) (N : Num) (hN : Hid (IsN c' m' x' h' l' N))
    (s1 : Hid (M.mag < 18446744073709551616)) (s2 : Hid (N.mag < 18446744073709551616)) (a1 : -100000 ≤ x) (a2 : x ≤ 100000) (b1 : -100000 ≤ x') (b2 : x' ≤ 100000) (w : World) :
    Calls Try.prog 45 #[.agg #[.int .i64 c, .bool m, .int .i64 x, .int .u64 h, .int .u64 l], .agg #[.int .i64 c', .bool m', .int .i64 x', .int .u64 h', .int .u64 l']] w (RetN (productN M N) w) := by
  by_cases h1 : c = 1 ∧ c' = 1
  · obtain ⟨rfl, rfl⟩ := h1
    go_enter Try.func45, Try.ntmps45
    go_wp2_with fail
    refine (multiply_c l l' (hM.out.2.2.2.2.1) (hN.out.2.2.2.2.1) _).mono ?_
    rintro e w1 ⟨h1, l1, rfl, hI1, hb1⟩
    obtain ⟨hc1, hf1⟩ := bcell hb1; have hz1 := hb1.size; (try simp only [sz_alloc, sz_drew, sz_set] at hz1 hc1 hf1); have l1_0 : w.heap.size < w1.heap.size := (by omega); have n1_0 : ¬ w.heap.size = w1.heap.size := (by omega); have m1_0 : ¬ w1.heap.size = w.heap.size := (by omega); have k1_0 := fun o => hc1 (w.heap.size) o (by omega); have f1_0 := fun o => hf1 (w.heap.size) o (by omega); (try simp (disch := (first | rfl | omega | (simp only [sz_alloc, sz_drew, sz_set]; omega))) only [sz_alloc, sz_drew, sz_set, World.cell?_drew, World.frozen?_drew, World.cell?_alloc_at, World.cell?_alloc_past, World.frozen?_alloc_at, World.frozen?_alloc_past] at k1_0 f1_0); have l1_1 : w.heap.size + 1 < w1.heap.size := (by omega); have n1_1 : ¬ w.heap.size + 1 = w1.heap.size := (by omega); have m1_1 : ¬ w1.heap.size = w.heap.size + 1 := (by omega); have k1_1 := fun o => hc1 (w.heap.size + 1) o (by omega); have f1_1 := fun o => hf1 (w.heap.size + 1) o (by omega); (try simp (disch := (first | rfl | omega | (simp only [sz_alloc, sz_drew, sz_set]; omega))) only [sz_alloc, sz_drew, sz_set, World.cell?_drew, World.frozen?_drew, World.cell?_alloc_at, World.cell?_alloc_past, World.frozen?_alloc_at, World.frozen?_alloc_past] at k1_1 f1_1); have l1_2 : w.heap.size + 1 + 1 < w1.heap.size := (by omega); have n1_2 : ¬ w.heap.size + 1 + 1 = w1.heap.size := (by omega); have m1_2 : ¬ w1.heap.size = w.heap.size + 1 + 1 := (by omega); have k1_2 := fun o => hc1 (w.heap.size + 1 + 1) o (by omega); have f1_2 := fun o => hf1 (w.heap.size + 1 + 1) o (by omega); (try simp (disch := (first | rfl | omega | (simp only [sz_alloc, sz_drew, sz_set]; omega))) only [sz_alloc, sz_drew, sz_set, World.cell?_drew, World.frozen?_drew, World.cell?_alloc_at, World.cell?_alloc_past, World.frozen?_alloc_at, World.frozen?_alloc_past] at k1_2 f1_2); have l1_3 : w.heap.size + 1 + 1 + 1 < w1.heap.size := (by omega); have n1_3 : ¬ w.heap.size + 1 + 1 + 1 = w1.heap.size := (by omega); have m1_3 : ¬ w1.heap.size = w.heap.size + 1 + 1 + 1 := (by omega); have k1_3 := fun o => hc1 (w.heap.size + 1 + 1 + 1) o (by omega); have f1_3 := fun o => hf1 (w.heap.size + 1 + 1 + 1) o (by omega); (try simp (disch := (first | rfl | omega | (simp only [sz_alloc, sz_drew, sz_set]; omega))) only [sz_alloc, sz_drew, sz_set, World.cell?_drew, World.frozen?_drew, World.cell?_alloc_at, World.cell?_alloc_past, World.frozen?_alloc_at, World.frozen?_alloc_past] at k1_3 f1_3)
    go_wp2_with fail
    refine bodyPost_ret (v := .agg #[_, _, _, _, _]) (by simp [results, Try.results45, go_sem, k1_2, l1_2, n1_2, sz_set] <;> (first | rfl | (repeat' (first | rfl | apply And.intro)))) rfl (retN_mk (productN_one hM.out hN.out s1.out s2.out hI1.out) rfl rfl (by repeat (first | (with_reducible first | exact Below.refl _ _ | assumption | exact Nat.le_refl _ | refine Below.drew ?_ | refine Below.alloc ?_ ?_ _ | refine Below.setCell ?_ ?_ _ | refine le_alloc ?_ | refine le_set ?_ | refine le_drew ?_ | refine below_step (by assumption) ?_ ?_ | refine le_below (by assumption) ?_) | (dsimp only; omega))))
  · by_cases h2 : 2 ≤ c
    · go_enter Try.func45, Try.ntmps45
      go_wp2_with fail
      refine bodyPost_ret (v := .agg #[_, _, _, _, _]) (by simp [results, Try.results45, go_sem, sz_set] <;> (first | rfl | (repeat' (first | rfl | apply And.intro)))) rfl (retN_mk (productN_max hM.out hN.out (.inl h2)) rfl rfl (by repeat (first | (with_reducible first | exact Below.refl _ _ | assumption | exact Nat.le_refl _ | refine Below.drew ?_ | refine Below.alloc ?_ ?_ _ | refine Below.setCell ?_ ?_ _ | refine le_alloc ?_ | refine le_set ?_ | refine le_drew ?_ | refine below_step (by assumption) ?_ ?_ | refine le_below (by assumption) ?_) | (dsimp only; omega))))
    · by_cases h3 : 2 ≤ c'
      · go_enter Try.func45, Try.ntmps45
        go_wp2_with fail
        refine bodyPost_ret (v := .agg #[_, _, _, _, _]) (by simp [results, Try.results45, go_sem, sz_set] <;> (first | rfl | (repeat' (first | rfl | apply And.intro)))) rfl (retN_mk (productN_max hM.out hN.out (.inr h3)) rfl rfl (by repeat (first | (with_reducible first | exact Below.refl _ _ | assumption | exact Nat.le_refl _ | refine Below.drew ?_ | refine Below.alloc ?_ ?_ _ | refine Below.setCell ?_ ?_ _ | refine le_alloc ?_ | refine le_set ?_ | refine le_drew ?_ | refine below_step (by assumption) ?_ ?_ | refine le_below (by assumption) ?_) | (dsimp only; omega))))
      · have HH := Lib.hid (productN_zero hM.out hN.out h1 h2 h3)
        by_cases h4 : c = 1
        · have h5 : (c' == 1) = false := by rw [beq_eq_false_iff_ne]; intro e; exact h1 ⟨h4, e⟩
          subst h4
          clear h1
          go_enter Try.func45, Try.ntmps45
          go_wp2_with fail
          refine bodyPost_ret (v := .agg #[_, _, _, _, _]) (by simp [results, Try.results45, go_sem, sz_set] <;> (first | rfl | (repeat' (first | rfl | apply And.intro)))) rfl (retN_mk HH.out rfl rfl (by repeat (first | (with_reducible first | exact Below.refl _ _ | assumption | exact Nat.le_refl _ | refine Below.drew ?_ | refine Below.alloc ?_ ?_ _ | refine Below.setCell ?_ ?_ _ | refine le_alloc ?_ | refine le_set ?_ | refine le_drew ?_ | refine below_step (by assumption) ?_ ?_ | refine le_below (by assumption) ?_) | (dsimp only; omega))))
        · have h5 : (c == 1) = false := by rw [beq_eq_false_iff_ne]; exact h4
          clear h1 h4
          go_enter Try.func45, Try.ntmps45
          go_wp2_with fail
          refine bodyPost_ret (v := .agg #[_, _, _, _, _]) (by simp [results, Try.results45, go_sem, sz_set] <;> (first | rfl | (repeat' (first | rfl | apply And.intro)))) rfl (retN_mk HH.out rfl rfl (by repeat (first | (with_reducible first | exact Below.refl _ _ | assumption | exact Nat.le_refl _ | refine Below.drew ?_ | refine Below.alloc ?_ ?_ _ | refine Below.setCell ?_ ?_ _ | refine le_alloc ?_ | refine le_set ?_ | refine le_drew ?_ | refine below_step (by assumption) ?_ ?_ | refine le_below (by assumption) ?_) | (dsimp only; omega))))
end Go.Proofs.Ythjdeopfbjmmeaa
