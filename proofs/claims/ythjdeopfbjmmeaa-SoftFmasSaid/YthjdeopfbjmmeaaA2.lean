/- Sums and differences of numbers of two words; a shift that keeps whether something fell out. -/
import Derived.Test.YthjdeopfbjmmeaaA
import Derived.Deep.RegionHeld3
import Derived.Laws.StructEq
namespace Go.Proofs.Ythjdeopfbjmmeaa
open Go.ChangeShapes Go.WideShapes Go.ChangeAt Go.RowKit
set_option linter.unusedVariables false
set_option linter.unusedSimpArgs false
def addS (x y c : Nat) : Nat := (x + y + c) % 18446744073709551616
def addC (x y c : Nat) : Nat := (x + y + c) / 18446744073709551616
def subS (x y c : Nat) : Nat := (x + 18446744073709551616 - y - c) % 18446744073709551616
def subC (x y c : Nat) : Nat := if x < y + c then 1 else 0
theorem add_0 (x y : Nat) (w : World) : (callFunc 99 #[.int .u64 x, .int .u64 y, .int .u64 0]).run Try.prog w =
      .ok (.value (.tuple #[.int .u64 (addS x y 0 : Nat), .int .u64 (addC x y 0 : Nat)])) w := go_add64 x y 0 (by decide) w
theorem add_1 (x y c : Nat) (hc : c ≤ 1) (w : World) : (callFunc 99 #[.int .u64 x, .int .u64 y, .int .u64 c]).run Try.prog w =
      .ok (.value (.tuple #[.int .u64 (addS x y c : Nat), .int .u64 (addC x y c : Nat)])) w := go_add64 x y c hc w
theorem sub_0 (x y : Nat) (w : World) : (callFunc 100 #[.int .u64 x, .int .u64 y, .int .u64 0]).run Try.prog w =
      .ok (.value (.tuple #[.int .u64 (subS x y 0 : Nat), .int .u64 (subC x y 0 : Nat)])) w := go_sub64 x y 0 (by decide) w
theorem sub_1 (x y c : Nat) (hc : c ≤ 1) (w : World) : (callFunc 100 #[.int .u64 x, .int .u64 y, .int .u64 c]).run Try.prog w =
      .ok (.value (.tuple #[.int .u64 (subS x y c : Nat), .int .u64 (subC x y c : Nat)])) w := go_sub64 x y c hc w
theorem subC_le (x y c : Nat) : subC x y c ≤ 1 := by unfold subC; split <;> decide

theorem plus_c (h l x h' l' x' : Nat) (hx : Hid (IsW h l x)) (hx' : Hid (IsW h' l' x')) (hs : Fits (x + x')) (w : World) :
    Calls Try.prog 90 #[.agg #[.int .u64 h, .int .u64 l], .agg #[.int .u64 h', .int .u64 l']] w (RetW (x + x') w) := by
  have H1 := fun w => add_0 l l' w
  have H2 := fun w => add_1 h h' (addC l l' 0) (by obtain ⟨-, a, -⟩ := hx.out; obtain ⟨-, b, -⟩ := hx'.out; unfold addC; omega) w
  go_enter Try.func90, Try.ntmps90
  go_wp2
  exact bodyPost_ret (v := .agg #[_, _]) (by simp [results, Try.results90, go_sem] <;> (first | rfl | (repeat' (first | rfl | apply And.intro)))) rfl (retW_mk (hx.out.plus hx'.out hs) rfl rfl (by repeat (first | (with_reducible first | exact Below.refl _ _ | assumption | exact Nat.le_refl _ | refine Below.drew ?_ | refine Below.alloc ?_ ?_ _ | refine Below.setCell ?_ ?_ _ | refine le_alloc ?_ | refine le_set ?_ | refine le_drew ?_ | refine below_step (by assumption) ?_ ?_ | refine le_below (by assumption) ?_) | (dsimp only; omega))))

theorem minus_c (h l x h' l' x' : Nat) (hx : Hid (IsW h l x)) (hx' : Hid (IsW h' l' x')) (hs : x' ≤ x) (w : World) :
    Calls Try.prog 91 #[.agg #[.int .u64 h, .int .u64 l], .agg #[.int .u64 h', .int .u64 l']] w (RetW (x - x') w) := by
  have H1 := fun w => sub_0 l l' w
  have H2 := fun w => sub_1 h h' (subC l l' 0) (subC_le _ _ _) w
  have HS := Lib.hid hs; clear hs
  go_enter Try.func91, Try.ntmps91
  go_wp2
  exact bodyPost_ret (v := .agg #[_, _]) (by simp [results, Try.results91, go_sem] <;> (first | rfl | (repeat' (first | rfl | apply And.intro)))) rfl (retW_mk (hx.out.minus hx'.out HS.out) rfl rfl (by repeat (first | (with_reducible first | exact Below.refl _ _ | assumption | exact Nat.le_refl _ | refine Below.drew ?_ | refine Below.alloc ?_ ?_ _ | refine Below.setCell ?_ ?_ _ | refine le_alloc ?_ | refine le_set ?_ | refine le_drew ?_ | refine below_step (by assumption) ?_ ?_ | refine le_below (by assumption) ?_) | (dsimp only; omega))))

/-- Two numbers of two words are held against each other. -/
def eqW (h l h' l' : Nat) : Bool := h == h' && l == l'
theorem run_eqW (h l h' l' : Nat) (w : World) :
    (binOp .eql 45 (.agg #[.int .u64 h, .int .u64 l]) (.agg #[.int .u64 h', .int .u64 l'])).run Try.prog w = .ok (.bool (eqW h l h' l')) w := by
  unfold eqW
  simp [binOp, Op.equal, Op.maxDepth, go_sem]
  (repeat' split) <;> simp_all <;> omega
theorem run_neW (h l h' l' : Nat) (w : World) :
    (binOp .neq 45 (.agg #[.int .u64 h, .int .u64 l]) (.agg #[.int .u64 h', .int .u64 l'])).run Try.prog w = .ok (.bool (!(eqW h l h' l'))) w := by
  unfold eqW
  simp [binOp, Op.equal, Op.maxDepth, go_sem]
  (repeat' split) <;> simp_all <;> omega
attribute [local go_sem ↓ high] run_neW run_eqW
theorem eqW_of {h l x h' l' x' : Nat} (H : IsW h l x) (H' : IsW h' l' x') : eqW h l h' l' = decide (x = x') := by
  unfold eqW; rw [Bool.eq_iff_iff]; simp [H.eq H']

/-- Shifted to the right; the last bit is 1 if something fell out. -/
def rsticky (x n : Nat) : Nat := if shl (x / 2 ^ n) n = x then x / 2 ^ n else x / 2 ^ n / 2 * 2 + 1
theorem rightSticky_c (h l x : Nat) (n : Int) (hx : Hid (IsW h l x)) (h0 : 0 ≤ n) (h1 : n < 65536) (w : World) :
    Calls Try.prog 89 #[.agg #[.int .u64 h, .int .u64 l], .int .i64 n] w (RetW (rsticky x n.toNat) w) := by
  go_enter Try.func89, Try.ntmps89
  go_wp2_with fail
  refine (right_c _ _ _ _ hx h0 h1 _).mono ?_
  rintro e w1 ⟨h', l', rfl, hI, hb1⟩
  obtain ⟨hc1, hf1⟩ := bcell hb1; have hz1 := hb1.size; (try simp only [sz_alloc, sz_drew, sz_set] at hz1 hc1 hf1)
  have l1_0 : w.heap.size < w1.heap.size := (by omega); have n1_0 : ¬ w.heap.size = w1.heap.size := (by omega); have m1_0 : ¬ w1.heap.size = w.heap.size := (by omega); have k1_0 := fun o => hc1 (w.heap.size) o (by omega); have f1_0 := fun o => hf1 (w.heap.size) o (by omega); (try simp (disch := (first | rfl | omega | (simp only [sz_alloc, sz_drew, sz_set]; omega))) only [sz_alloc, sz_drew, sz_set, World.cell?_drew, World.frozen?_drew, World.cell?_alloc_at, World.cell?_alloc_past, World.frozen?_alloc_at, World.frozen?_alloc_past] at k1_0 f1_0); have l1_1 : w.heap.size + 1 < w1.heap.size := (by omega); have n1_1 : ¬ w.heap.size + 1 = w1.heap.size := (by omega); have m1_1 : ¬ w1.heap.size = w.heap.size + 1 := (by omega); have k1_1 := fun o => hc1 (w.heap.size + 1) o (by omega); have f1_1 := fun o => hf1 (w.heap.size + 1) o (by omega); (try simp (disch := (first | rfl | omega | (simp only [sz_alloc, sz_drew, sz_set]; omega))) only [sz_alloc, sz_drew, sz_set, World.cell?_drew, World.frozen?_drew, World.cell?_alloc_at, World.cell?_alloc_past, World.frozen?_alloc_at, World.frozen?_alloc_past] at k1_1 f1_1)
  go_wp2_with fail
  go_region_held3 (fun w' => w'.cell? ⟨w.heap.size, 0, none⟩ = some (.int .u64 h) ∧ w'.cell? ⟨w.heap.size, 1, none⟩ = some (.int .u64 l) ∧ w'.cell? ⟨w1.heap.size, 0, none⟩ = some (.int .u64 h') ∧ w'.cell? ⟨w1.heap.size, 1, none⟩ = some (.int .u64 l')) (go_keep)
    (first
      | (go_at_call 83; refine (left_c _ _ _ _ hI h0 h1 _).mono ?_; rintro e w2 ⟨h2, l2, rfl, hI2, hb2⟩; obtain ⟨hc2, hf2⟩ := bcell hb2; have hz2 := hb2.size; (try simp only [sz_alloc, sz_drew, sz_set] at hz2 hc2 hf2); have l2_0 : w.heap.size < w2.heap.size := (by omega); have n2_0 : ¬ w.heap.size = w2.heap.size := (by omega); have m2_0 : ¬ w2.heap.size = w.heap.size := (by omega); have k2_0 := fun o => hc2 (w.heap.size) o (by omega); have f2_0 := fun o => hf2 (w.heap.size) o (by omega); (try simp (disch := (first | rfl | omega | (simp only [sz_alloc, sz_drew, sz_set]; omega))) only [sz_alloc, sz_drew, sz_set, World.cell?_drew, World.frozen?_drew, World.cell?_alloc_at, World.cell?_alloc_past, World.frozen?_alloc_at, World.frozen?_alloc_past, hc1, hf1] at k2_0 f2_0); have l2_1 : w.heap.size + 1 < w2.heap.size := (by omega); have n2_1 : ¬ w.heap.size + 1 = w2.heap.size := (by omega); have m2_1 : ¬ w2.heap.size = w.heap.size + 1 := (by omega); have k2_1 := fun o => hc2 (w.heap.size + 1) o (by omega); have f2_1 := fun o => hf2 (w.heap.size + 1) o (by omega); (try simp (disch := (first | rfl | omega | (simp only [sz_alloc, sz_drew, sz_set]; omega))) only [sz_alloc, sz_drew, sz_set, World.cell?_drew, World.frozen?_drew, World.cell?_alloc_at, World.cell?_alloc_past, World.frozen?_alloc_at, World.frozen?_alloc_past, hc1, hf1] at k2_1 f2_1); have l2_2 : w1.heap.size < w2.heap.size := (by omega); have n2_2 : ¬ w1.heap.size = w2.heap.size := (by omega); have m2_2 : ¬ w2.heap.size = w1.heap.size := (by omega); have k2_2 := fun o => hc2 (w1.heap.size) o (by omega); have f2_2 := fun o => hf2 (w1.heap.size) o (by omega); (try simp (disch := (first | rfl | omega | (simp only [sz_alloc, sz_drew, sz_set]; omega))) only [sz_alloc, sz_drew, sz_set, World.cell?_drew, World.frozen?_drew, World.cell?_alloc_at, World.cell?_alloc_past, World.frozen?_alloc_at, World.frozen?_alloc_past, hc1, hf1] at k2_2 f2_2))
      | (go_at_call 84; refine (sticky_c _ _ _ _ hI _).mono ?_;  rintro e w3 ⟨h3, l3, rfl, hI3, hb3⟩; obtain ⟨hc3, hf3⟩ := bcell hb3; have hz3 := hb3.size; (try simp only [sz_alloc, sz_drew, sz_set] at hz3 hc3 hf3); have l3_0 : w.heap.size < w3.heap.size := (by omega); have n3_0 : ¬ w.heap.size = w3.heap.size := (by omega); have m3_0 : ¬ w3.heap.size = w.heap.size := (by omega); have k3_0 := fun o => hc3 (w.heap.size) o (by omega); have f3_0 := fun o => hf3 (w.heap.size) o (by omega); (try simp (disch := (first | rfl | omega | (simp only [sz_alloc, sz_drew, sz_set]; omega))) only [sz_alloc, sz_drew, sz_set, World.cell?_drew, World.frozen?_drew, World.cell?_alloc_at, World.cell?_alloc_past, World.frozen?_alloc_at, World.frozen?_alloc_past, hc2, hc1, hf2, hf1] at k3_0 f3_0); have l3_1 : w.heap.size + 1 < w3.heap.size := (by omega); have n3_1 : ¬ w.heap.size + 1 = w3.heap.size := (by omega); have m3_1 : ¬ w3.heap.size = w.heap.size + 1 := (by omega); have k3_1 := fun o => hc3 (w.heap.size + 1) o (by omega); have f3_1 := fun o => hf3 (w.heap.size + 1) o (by omega); (try simp (disch := (first | rfl | omega | (simp only [sz_alloc, sz_drew, sz_set]; omega))) only [sz_alloc, sz_drew, sz_set, World.cell?_drew, World.frozen?_drew, World.cell?_alloc_at, World.cell?_alloc_past, World.frozen?_alloc_at, World.frozen?_alloc_past, hc2, hc1, hf2, hf1] at k3_1 f3_1); have l3_2 : w1.heap.size < w3.heap.size := (by omega); have n3_2 : ¬ w1.heap.size = w3.heap.size := (by omega); have m3_2 : ¬ w3.heap.size = w1.heap.size := (by omega); have k3_2 := fun o => hc3 (w1.heap.size) o (by omega); have f3_2 := fun o => hf3 (w1.heap.size) o (by omega); (try simp (disch := (first | rfl | omega | (simp only [sz_alloc, sz_drew, sz_set]; omega))) only [sz_alloc, sz_drew, sz_set, World.cell?_drew, World.frozen?_drew, World.cell?_alloc_at, World.cell?_alloc_past, World.frozen?_alloc_at, World.frozen?_alloc_past, hc2, hc1, hf2, hf1] at k3_2 f3_2)))
  go_wp2
  refine bodyPost_ret (v := .agg #[.int .u64 h3, .int .u64 l3]) (by simp [results, Try.results89, go_sem, k3_1] <;> (first | rfl | (repeat' (first | rfl | apply And.intro)))) rfl (retW_mk ?_ rfl rfl (by repeat (first | (with_reducible first | exact Below.refl _ _ | assumption | exact Nat.le_refl _ | refine Below.drew ?_ | refine Below.alloc ?_ ?_ _ | refine Below.setCell ?_ ?_ _ | refine le_alloc ?_ | refine le_set ?_ | refine le_drew ?_ | refine below_step (by assumption) ?_ ?_ | refine le_below (by assumption) ?_) | (dsimp only; omega))))
  have := hI3.out
  rw [eqW_of hI2.out hx.out] at this
  unfold rsticky
  by_cases hh : shl (x / 2 ^ n.toNat) n.toNat = x
  · rw [if_pos hh]; simpa [hh] using this
  · rw [if_neg hh]; simpa [hh] using this
end Go.Proofs.Ythjdeopfbjmmeaa
