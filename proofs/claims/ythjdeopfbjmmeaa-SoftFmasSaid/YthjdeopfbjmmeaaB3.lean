/- The contracts of numbers: brought to a place, multiplied. -/
import Derived.Test.YthjdeopfbjmmeaaA2
namespace Go.Proofs.Ythjdeopfbjmmeaa
open Go.ChangeShapes Go.WideShapes Go.ChangeAt Go.RowKit
set_option linter.unusedVariables false
set_option linter.unusedSimpArgs false
theorem IsW.low {h l n : Nat} (H : IsW h l n) (hn : n < 18446744073709551616) : l = n := by obtain ⟨a, b, c⟩ := H; omega
theorem cell_set_far {w : World} {b o b' o' : Nat} {v : Value} (h : b ≠ b') : (w.setCell ⟨b, o, none⟩ v).cell? ⟨b', o', none⟩ = w.cell? ⟨b', o', none⟩ :=
  World.cell?_setCell_other _ _ _ _ (by intro e; cases e; exact h rfl)
def At5 (w : World) (b : Nat) (c : Int) (m : Bool) (x : Int) (h l : Nat) : Prop :=
  w.cell? ⟨b, 0, none⟩ = some (.int .i64 c) ∧ w.cell? ⟨b, 1, none⟩ = some (.bool m) ∧ w.cell? ⟨b, 2, none⟩ = some (.int .i64 x) ∧ w.cell? ⟨b, 3, none⟩ = some (.int .u64 h) ∧ w.cell? ⟨b, 4, none⟩ = some (.int .u64 l) ∧ ∀ o, w.frozen? ⟨b, o, none⟩ = false
theorem At5.below {W w' : World} {b : Nat} {c : Int} {m : Bool} {x : Int} {h l : Nat} (H : At5 W b c m x h l) (hb : Below W.heap.size W w') (hlt : b < W.heap.size) : At5 w' b c m x h l := by
  obtain ⟨hc, hf⟩ := bcell hb
  obtain ⟨a0, a1, a2, a3, a4, a5⟩ := H
  exact ⟨by rw [hc _ _ hlt]; exact a0, by rw [hc _ _ hlt]; exact a1, by rw [hc _ _ hlt]; exact a2, by rw [hc _ _ hlt]; exact a3, by rw [hc _ _ hlt]; exact a4, fun o => by rw [hf _ _ hlt]; exact a5 o⟩
/-- The same number, its highest bit brought to a place. -/
def raisedN (N : Num) (p : Nat) : Num := ⟨N.cls, N.minus, N.exp - ((p : Int) + 1 - (blen N.mag : Int)), shl N.mag (p + 1 - blen N.mag)⟩
theorem raised_mag {N : Num} {p : Nat} (h0 : N.mag ≠ 0) (hp : p ≤ 127) (hb : blen N.mag ≤ p + 1) : (raisedN N p).mag = N.mag * 2 ^ (p + 1 - blen N.mag) ∧ 2 ^ p ≤ (raisedN N p).mag ∧ (raisedN N p).mag < 2 ^ (p + 1) := by
  obtain ⟨a, b, c⟩ := blen_bounds N.mag h0
  have hq : 0 < 2 ^ (p + 1 - blen N.mag) := Nat.two_pow_pos _
  have e1 : 2 ^ (blen N.mag - 1) * 2 ^ (p + 1 - blen N.mag) = 2 ^ p := by rw [← Nat.pow_add]; congr 1; omega
  have e2 : 2 ^ blen N.mag * 2 ^ (p + 1 - blen N.mag) = 2 ^ (p + 1) := by rw [← Nat.pow_add]; congr 1; omega
  have h1 : 2 ^ p ≤ N.mag * 2 ^ (p + 1 - blen N.mag) := by rw [← e1]; exact Nat.mul_le_mul_right _ b
  have h2 : N.mag * 2 ^ (p + 1 - blen N.mag) < 2 ^ (p + 1) := by rw [← e2]; exact Nat.mul_lt_mul_of_pos_right c hq
  have h3 : 2 ^ (p + 1) ≤ 2 ^ 128 := Nat.pow_le_pow_right (by decide) (by omega)
  have e : (raisedN N p).mag = N.mag * 2 ^ (p + 1 - blen N.mag) := by
    show shl _ _ = _
    unfold shl; exact Nat.mod_eq_of_lt (by omega)
  rw [e]; exact ⟨rfl, h1, h2⟩
theorem raised_c (c : Int) (m : Bool) (x : Int) (h l : Nat) (N : Num) (p : Int) (hN : Hid (IsN c m x h l N)) (hp0 : 0 ≤ p) (hp : p ≤ 127) (hy : (blen N.mag : Int) ≤ p + 1)
    (hx0 : -1000000 ≤ x) (hx1 : x ≤ 1000000) (w : World) :
    Calls Try.prog 78 #[.agg #[.int .i64 c, .bool m, .int .i64 x, .int .u64 h, .int .u64 l], .int .i64 p] w (RetN (raisedN N p.toNat) w) := by
  obtain ⟨p, rfl⟩ := Int.eq_ofNat_of_zero_le hp0
  rw [Int.toNat_natCast]
  have hp' : p ≤ 127 := by omega
  have hy' : blen N.mag ≤ p + 1 := by omega
  clear hp0 hp hy
  have hx : Hid (IsW h l N.mag) := hN.out.2.2.2
  go_enter Try.func78, Try.ntmps78
  go_wp2_with fail
  refine (leadingNoughts_c _ _ _ hx _).mono ?_
  rintro e w1 ⟨rfl, hb1⟩
  obtain ⟨hc1, hf1⟩ := bcell hb1; have hz1 := hb1.size; (try simp only [sz_alloc, sz_drew, sz_set] at hz1 hc1 hf1); have l1_0 : w.heap.size < w1.heap.size := (by omega); have n1_0 : ¬ w.heap.size = w1.heap.size := (by omega); have m1_0 : ¬ w1.heap.size = w.heap.size := (by omega); have k1_0 := fun o => hc1 (w.heap.size) o (by omega); have f1_0 := fun o => hf1 (w.heap.size) o (by omega); (try simp (disch := (first | rfl | omega | (simp only [sz_alloc, sz_drew, sz_set]; omega))) only [sz_alloc, sz_drew, sz_set, World.cell?_drew, World.frozen?_drew, World.cell?_alloc_at, World.cell?_alloc_past, World.frozen?_alloc_at, World.frozen?_alloc_past] at k1_0 f1_0); have l1_1 : w.heap.size + 1 < w1.heap.size := (by omega); have n1_1 : ¬ w.heap.size + 1 = w1.heap.size := (by omega); have m1_1 : ¬ w1.heap.size = w.heap.size + 1 := (by omega); have k1_1 := fun o => hc1 (w.heap.size + 1) o (by omega); have f1_1 := fun o => hf1 (w.heap.size + 1) o (by omega); (try simp (disch := (first | rfl | omega | (simp only [sz_alloc, sz_drew, sz_set]; omega))) only [sz_alloc, sz_drew, sz_set, World.cell?_drew, World.frozen?_drew, World.cell?_alloc_at, World.cell?_alloc_past, World.frozen?_alloc_at, World.frozen?_alloc_past] at k1_1 f1_1)
  go_wp2_with fail
  refine (left_c _ _ _ _ hx (by omega) (by omega) _).mono ?_
  rintro e w2 ⟨h2, l2, rfl, hI2, hb2⟩
  obtain ⟨hc2, hf2⟩ := bcell hb2; have hz2 := hb2.size; (try simp only [sz_alloc, sz_drew, sz_set] at hz2 hc2 hf2); have l2_0 : w.heap.size < w2.heap.size := (by omega); have n2_0 : ¬ w.heap.size = w2.heap.size := (by omega); have m2_0 : ¬ w2.heap.size = w.heap.size := (by omega); have k2_0 := fun o => hc2 (w.heap.size) o (by omega); have f2_0 := fun o => hf2 (w.heap.size) o (by omega); (try simp (disch := (first | rfl | omega | (simp only [sz_alloc, sz_drew, sz_set]; omega))) only [sz_alloc, sz_drew, sz_set, World.cell?_drew, World.frozen?_drew, World.cell?_alloc_at, World.cell?_alloc_past, World.frozen?_alloc_at, World.frozen?_alloc_past, hc1, hf1] at k2_0 f2_0); have l2_1 : w.heap.size + 1 < w2.heap.size := (by omega); have n2_1 : ¬ w.heap.size + 1 = w2.heap.size := (by omega); have m2_1 : ¬ w2.heap.size = w.heap.size + 1 := (by omega); have k2_1 := fun o => hc2 (w.heap.size + 1) o (by omega); have f2_1 := fun o => hf2 (w.heap.size + 1) o (by omega); (try simp (disch := (first | rfl | omega | (simp only [sz_alloc, sz_drew, sz_set]; omega))) only [sz_alloc, sz_drew, sz_set, World.cell?_drew, World.frozen?_drew, World.cell?_alloc_at, World.cell?_alloc_past, World.frozen?_alloc_at, World.frozen?_alloc_past, hc1, hf1] at k2_1 f2_1)
  go_wp2_with fail
  go_outline
  refine bodyPost_ret (v := .agg #[_, _, _, _, _]) (by simp [results, Try.results78, go_sem, k2_1, l2_1, n2_1, sz_set] <;> (first | rfl | (repeat' (first | rfl | apply And.intro)))) rfl (retN_mk ?_ rfl rfl (by repeat (first | (with_reducible first | exact Below.refl _ _ | assumption | exact Nat.le_refl _ | refine Below.drew ?_ | refine Below.alloc ?_ ?_ _ | refine Below.setCell ?_ ?_ _ | refine le_alloc ?_ | refine le_set ?_ | refine le_drew ?_ | refine below_step (by assumption) ?_ ?_ | refine le_below (by assumption) ?_) | (dsimp only; omega))))
  obtain ⟨hc, hm, hx, hI⟩ := hN.out
  refine ⟨hc, hm, ?_, ?_⟩
  · rw [hx]; unfold raisedN; simp only; omega
  · have e : (128 - (blen N.mag : Int) - (127 - (p : Int))).toNat = p + 1 - blen N.mag := by omega
    have := hI2.out
    rw [e] at this
    exact this
end Go.Proofs.Ythjdeopfbjmmeaa
