/- The contracts of reading and joining floats. -/
import Derived.Test.YthjdeopfbjmmeaaB1
namespace Go.Proofs.Ythjdeopfbjmmeaa
open Go.ChangeShapes Go.WideShapes Go.ChangeAt Go.RowKit
set_option linter.unusedVariables false
set_option linter.unusedSimpArgs false

theorem and_mask (x k : Nat) (hx : x < 18446744073709551616) (hk : 2 ^ k ≤ 18446744073709551616) : bits .and .u64 (x : Int) ((2 ^ k - 1 : Nat) : Int) = ((x % 2 ^ k : Nat) : Int) := by
  have hp : 0 < 2 ^ k := Nat.two_pow_pos k
  rw [u64_and_nat _ _ hx (by omega), Nat.and_two_pow_sub_one_eq_mod]
theorem and_bit (x k : Nat) (hx : x < 18446744073709551616) (hk : k < 64) : (bits .and .u64 (x : Int) ((2 ^ k : Nat) : Int) != 0) = decide (x / 2 ^ k % 2 = 1) := by
  have hp : 0 < 2 ^ k := Nat.two_pow_pos k
  rw [u64_and_nat _ _ hx (by rw [pow64]; exact Nat.pow_lt_pow_right (by decide) hk), nat_bit, Bool.eq_iff_iff]
  simp only [bne_iff_ne, ne_eq, decide_eq_true_eq, Int.natCast_eq_zero, Nat.mul_eq_zero]
  omega
theorem or_frac (x k : Nat) (hk : k < 64) (hx : x < 2 ^ k) : bits .or .u64 (x : Int) ((2 ^ k : Nat) : Int) = ((x + 2 ^ k : Nat) : Int) := by
  have h64 : 2 ^ k < 18446744073709551616 := by rw [pow64]; exact Nat.pow_lt_pow_right (by decide) hk
  rw [bits_or_u64_nat _ _ (by omega) h64, Nat.or_comm, or_disj k _ _ (by simp) hx, Nat.add_comm]
theorem wrap64_nat (n : Nat) (h : n < 9223372036854775808) : wrap64 (n : Int) = n := IntWalk.wrap64_in _ ⟨by omega, by omega⟩
theorem or_sign (s x k : Nat) (hk : k < 64) (hs : s = 0 ∨ s = 2 ^ k) (hx : x < 2 ^ k) : bits .or .u64 (s : Int) (x : Int) = ((s + x : Nat) : Int) := by
  have h64 : 2 ^ k < 18446744073709551616 := by rw [pow64]; exact Nat.pow_lt_pow_right (by decide) hk
  rw [bits_or_u64_nat _ _ (by omega) (by omega), or_disj k _ _ ?_ hx]
  rcases hs with rfl | rfl <;> simp
theorem join_num (s t k f K : Nat) (hK : K < 64) (hs : s = 0 ∨ s = 2 ^ K) (h : t * f + k < 2 ^ K) :
    bits .or .u64 (s : Int) (IntKind.u64.wrap (IntKind.u64.wrap ((t : Int) * (f : Int)) + (k : Int))) = ((s + (t * f + k) : Nat) : Int) := by
  have h64 : 2 ^ K < 18446744073709551616 := by rw [pow64]; exact Nat.pow_lt_pow_right (by decide) hK
  rw [← Int.natCast_mul, wrapN, Nat.mod_eq_of_lt (by omega), ← Int.natCast_add, wrapN, Nat.mod_eq_of_lt (by omega)]
  exact or_sign _ _ K hK hs h

theorem classV_nonneg (d : Bool) (fr : Nat) : 0 ≤ classV d fr := by unfold classV; (repeat' split) <;> decide
theorem readN_end {d : Bool} {a fd fr : Nat} {m : Bool} (h1 : a / fracT d % expT d = fd) (h2 : a % fracT d = fr) (hm : m = decide (a / signB d % 2 = 1)) (h : fd = expT d - 1) :
    IsN (classV d fr) m 0 0 0 (readN d a) := by
  unfold readN
  simp only [h1, h2, ← hm]
  rw [if_pos h]
  exact ⟨by simp only; exact (Int.toNat_of_nonneg (classV_nonneg _ _)).symm, rfl, rfl, by decide, by decide, rfl⟩
theorem readN_norm {d : Bool} {a fd fr : Nat} {m : Bool} {x : Int} {l : Nat} (h1 : a / fracT d % expT d = fd) (h2 : a % fracT d = fr) (hm : m = decide (a / signB d % 2 = 1)) (h : fd ≠ expT d - 1) (h0 : fd ≠ 0)
    (hx : x = (fd : Int) - bias d - fb d) (hl : l = fr + fracT d) (hb : fr + fracT d < 18446744073709551616) :
    IsN 1 m x 0 l (readN d a) := by
  unfold readN
  simp only [h1, h2, ← hm]
  rw [if_neg h, if_pos h0]
  exact ⟨rfl, rfl, hx, by decide, by omega, by simp [hl]⟩
theorem readN_sub {d : Bool} {a fd fr : Nat} {m : Bool} {x : Int} {l : Nat} (h1 : a / fracT d % expT d = fd) (h2 : a % fracT d = fr) (hm : m = decide (a / signB d % 2 = 1)) (h : fd ≠ expT d - 1) (h0 : fd = 0)
    (hr : fr ≠ 0) (hx : x = 1 - bias d - fb d) (hl : l = fr) (hb : fr < 18446744073709551616) :
    IsN 1 m x 0 l (readN d a) := by
  unfold readN
  simp only [h1, h2, ← hm]
  rw [if_neg h, if_neg (by omega), if_pos hr]
  exact ⟨rfl, rfl, hx, by decide, by omega, by simp [hl]⟩
theorem readN_zero {d : Bool} {a fd fr : Nat} {m : Bool} (h1 : a / fracT d % expT d = fd) (h2 : a % fracT d = fr) (hm : m = decide (a / signB d % 2 = 1)) (h : fd ≠ expT d - 1) (h0 : fd = 0)
    (hr : fr = 0) : IsN 0 m 0 0 0 (readN d a) := by
  unfold readN
  simp only [h1, h2, ← hm]
  rw [if_neg h, if_neg (by omega), if_neg (by omega)]
  exact ⟨rfl, rfl, rfl, by decide, by decide, rfl⟩

theorem join_f (m : Bool) (top : Int) (k : Nat) (h0 : 1 - 127 ≤ top) (h1 : top ≤ 127) (hk : k ≤ 16777216) (hs : Hid ((top + (127 - 1)).toNat * 8388608 + k < 2147483648)) (w : World) :
    Calls Try.prog 81 #[.agg #[.int .i64 8, .int .i64 23], .bool m, .int .i64 top, .int .u64 k] w (RetU (noughtV false m + ((top + (127 - 1)).toNat * 8388608 + k)) w) := by
  have hB : bias false = 127 := rfl
  have HK := Lib.hid hk; have HB := Lib.hid hB; clear hk hB
  go_enter Try.func81, Try.ntmps81
  go_wp2_with fail
  refine (most_c false _ _ (.inl ⟨rfl, rfl, rfl⟩) _).mono ?_; rintro e w1 ⟨rfl, hb1⟩; obtain ⟨hc1, hf1⟩ := bcell hb1; have hz1 := hb1.size; (try simp only [sz_alloc, sz_drew, sz_set] at hz1 hc1 hf1); have l1_0 : w.heap.size < w1.heap.size := (by omega); have n1_0 : ¬ w.heap.size = w1.heap.size := (by omega); have m1_0 : ¬ w1.heap.size = w.heap.size := (by omega); have k1_0 := fun o => hc1 (w.heap.size) o (by omega); have f1_0 := fun o => hf1 (w.heap.size) o (by omega); (try simp (disch := (first | rfl | omega | (simp only [sz_alloc, sz_drew, sz_set]; omega))) only [sz_alloc, sz_drew, sz_set, World.cell?_drew, World.frozen?_drew, World.cell?_alloc_at, World.cell?_alloc_past, World.frozen?_alloc_at, World.frozen?_alloc_past] at k1_0 f1_0)
  rw [HB.out]
  go_wp2_with fail
  go_region_held3 (fun w' => w'.cell? ⟨w.heap.size, 0, none⟩ = some (.int .i64 8) ∧ w'.cell? ⟨w.heap.size, 1, none⟩ = some (.int .i64 23)) (go_keep)
    (first
      | (go_at_call 52; refine (nought_c false _ _ (.inl ⟨rfl, rfl, rfl⟩) _ _).mono ?_; rintro e w2 ⟨rfl, hb2⟩; obtain ⟨hc2, hf2⟩ := bcell hb2; have hz2 := hb2.size; (try simp only [sz_alloc, sz_drew, sz_set] at hz2 hc2 hf2); have l2_0 : w.heap.size < w2.heap.size := (by omega); have n2_0 : ¬ w.heap.size = w2.heap.size := (by omega); have m2_0 : ¬ w2.heap.size = w.heap.size := (by omega); have k2_0 := fun o => hc2 (w.heap.size) o (by omega); have f2_0 := fun o => hf2 (w.heap.size) o (by omega); (try simp (disch := (first | rfl | omega | (simp only [sz_alloc, sz_drew, sz_set]; omega))) only [sz_alloc, sz_drew, sz_set, World.cell?_drew, World.frozen?_drew, World.cell?_alloc_at, World.cell?_alloc_past, World.frozen?_alloc_at, World.frozen?_alloc_past] at k2_0 f2_0)))
  all_goals go_wp2
  all_goals go_ret
  all_goals refine retU_mk ?_ (by repeat (first | (with_reducible first | exact Below.refl _ _ | assumption | exact Nat.le_refl _ | refine Below.drew ?_ | refine Below.alloc ?_ ?_ _ | refine Below.setCell ?_ ?_ _ | refine le_alloc ?_ | refine le_set ?_ | refine le_drew ?_ | refine below_step (by assumption) ?_ ?_ | refine le_below (by assumption) ?_) | (dsimp only; omega)))
  all_goals
    have HS := hs.out
    have hk := HK.out
    obtain ⟨t, ht⟩ : ∃ t : Nat, top + 127 - 1 = t := ⟨(top + 127 - 1).toNat, by omega⟩
    have e1 : (top + (127 - 1)).toNat = t := by omega
    rw [e1] at HS ⊢
    rw [ht]
    exact join_num _ t k 8388608 31 (by decide) (by cases m; exact .inl rfl; exact .inr rfl) HS

set_option maxHeartbeats 4000000 in
theorem read_f (a : Nat) (ha : Hid (a < 18446744073709551616)) (w : World) :
    Calls Try.prog 35 #[.agg #[.int .i64 8, .int .i64 23], .int .u64 a] w (RetN (readN false a) w) := by
  have hB : bias false = 127 := rfl
  have hS : signB false = 2147483648 := rfl
  have HB := Lib.hid hB; have HSG := Lib.hid hS; clear hB hS
  have e1 : bits .and .u64 ((a : Int) / 8388608) 255 = ((a / 8388608 % 256 : Nat) : Int) := by
    rw [show (a : Int) / 8388608 = ((a / 8388608 : Nat) : Int) by omega]
    exact and_mask (a / 8388608) 8 (by have := ha.out; omega) (by decide)
  have e2 : bits .and .u64 (a : Int) 8388607 = ((a % 8388608 : Nat) : Int) := and_mask a 23 ha.out (by decide)
  have E1 := Lib.hid e1; have E2 := Lib.hid e2; clear e1 e2
  go_enter Try.func35, Try.ntmps35
  go_wp2_with fail
  go_region
  go_wp2_with fail
  rw [E1.out, E2.out, wrap64_nat _ (by have : a / 8388608 % 256 < 256 := Nat.mod_lt _ (by decide); omega)]
  have hfl : a / 8388608 % 256 < 256 := Nat.mod_lt _ (by decide)
  have hrl : a % 8388608 < 8388608 := Nat.mod_lt _ (by decide)
  revert hfl hrl
  generalize hF : a / 8388608 % 256 = fd
  generalize hR : a % 8388608 = fr
  intro hfl hrl
  have HF := Lib.hid hF; have HR := Lib.hid hR; clear hF hR
  refine (sign_c false _ _ (.inl ⟨rfl, rfl, rfl⟩) _).mono ?_; rintro e w1 ⟨rfl, hb1⟩; obtain ⟨hc1, hf1⟩ := bcell hb1; have hz1 := hb1.size; (try simp only [sz_alloc, sz_drew, sz_set] at hz1 hc1 hf1); have l1_0 : w.heap.size < w1.heap.size := (by omega); have n1_0 : ¬ w.heap.size = w1.heap.size := (by omega); have m1_0 : ¬ w1.heap.size = w.heap.size := (by omega); have k1_0 := fun o => hc1 (w.heap.size) o (by omega); have f1_0 := fun o => hf1 (w.heap.size) o (by omega); (try simp (disch := (first | rfl | omega | (simp only [sz_alloc, sz_drew, sz_set]; omega))) only [sz_alloc, sz_drew, sz_set, World.cell?_drew, World.frozen?_drew, World.cell?_alloc_at, World.cell?_alloc_past, World.frozen?_alloc_at, World.frozen?_alloc_past] at k1_0 f1_0); have l1_1 : w.heap.size + 1 < w1.heap.size := (by omega); have n1_1 : ¬ w.heap.size + 1 = w1.heap.size := (by omega); have m1_1 : ¬ w1.heap.size = w.heap.size + 1 := (by omega); have k1_1 := fun o => hc1 (w.heap.size + 1) o (by omega); have f1_1 := fun o => hf1 (w.heap.size + 1) o (by omega); (try simp (disch := (first | rfl | omega | (simp only [sz_alloc, sz_drew, sz_set]; omega))) only [sz_alloc, sz_drew, sz_set, World.cell?_drew, World.frozen?_drew, World.cell?_alloc_at, World.cell?_alloc_past, World.frozen?_alloc_at, World.frozen?_alloc_past] at k1_1 f1_1)
  rw [HSG.out]
  have HM : Hid ((bits BinOp.and IntKind.u64 (a : Int) 2147483648 != 0) = decide (a / signB false % 2 = 1)) := and_bit a 31 ha.out (by decide)
  by_cases h1 : fd = 255
  · have hb1 : ((fd : Int) == 255) = true := by simp [h1]
    have H1 := Lib.hid h1; clear h1
    go_wp2_with fail
    refine (classAtEnd_c false _ _ (.inl ⟨rfl, rfl, rfl⟩) _ _).mono ?_; rintro e w2 ⟨rfl, hb2⟩; obtain ⟨hc2, hf2⟩ := bcell hb2; have hz2 := hb2.size; (try simp only [sz_alloc, sz_drew, sz_set] at hz2 hc2 hf2); have l2_0 : w.heap.size < w2.heap.size := (by omega); have n2_0 : ¬ w.heap.size = w2.heap.size := (by omega); have m2_0 : ¬ w2.heap.size = w.heap.size := (by omega); have k2_0 := fun o => hc2 (w.heap.size) o (by omega); have f2_0 := fun o => hf2 (w.heap.size) o (by omega); (try simp (disch := (first | rfl | omega | (simp only [sz_alloc, sz_drew, sz_set]; omega))) only [sz_alloc, sz_drew, sz_set, World.cell?_drew, World.frozen?_drew, World.cell?_alloc_at, World.cell?_alloc_past, World.frozen?_alloc_at, World.frozen?_alloc_past, hc1, hf1] at k2_0 f2_0); have l2_1 : w.heap.size + 1 < w2.heap.size := (by omega); have n2_1 : ¬ w.heap.size + 1 = w2.heap.size := (by omega); have m2_1 : ¬ w2.heap.size = w.heap.size + 1 := (by omega); have k2_1 := fun o => hc2 (w.heap.size + 1) o (by omega); have f2_1 := fun o => hf2 (w.heap.size + 1) o (by omega); (try simp (disch := (first | rfl | omega | (simp only [sz_alloc, sz_drew, sz_set]; omega))) only [sz_alloc, sz_drew, sz_set, World.cell?_drew, World.frozen?_drew, World.cell?_alloc_at, World.cell?_alloc_past, World.frozen?_alloc_at, World.frozen?_alloc_past, hc1, hf1] at k2_1 f2_1); have l2_2 : w1.heap.size < w2.heap.size := (by omega); have n2_2 : ¬ w1.heap.size = w2.heap.size := (by omega); have m2_2 : ¬ w2.heap.size = w1.heap.size := (by omega); have k2_2 := fun o => hc2 (w1.heap.size) o (by omega); have f2_2 := fun o => hf2 (w1.heap.size) o (by omega); (try simp (disch := (first | rfl | omega | (simp only [sz_alloc, sz_drew, sz_set]; omega))) only [sz_alloc, sz_drew, sz_set, World.cell?_drew, World.frozen?_drew, World.cell?_alloc_at, World.cell?_alloc_past, World.frozen?_alloc_at, World.frozen?_alloc_past, hc1, hf1] at k2_2 f2_2)
    go_wp2_with fail
    refine bodyPost_ret (v := .agg #[_, _, _, _, _]) (by simp [results, Try.results35, go_sem, k2_1] <;> (first | rfl | (repeat' (first | rfl | apply And.intro)))) rfl (retN_mk (readN_end HF.out HR.out HM.out H1.out) rfl rfl (by repeat (first | (with_reducible first | exact Below.refl _ _ | assumption | exact Nat.le_refl _ | refine Below.drew ?_ | refine Below.alloc ?_ ?_ _ | refine Below.setCell ?_ ?_ _ | refine le_alloc ?_ | refine le_set ?_ | refine le_drew ?_ | refine below_step (by assumption) ?_ ?_ | refine le_below (by assumption) ?_) | (dsimp only; omega))))
  · have hb1 : ((fd : Int) == 255) = false := by rw [beq_eq_false_iff_ne]; omega
    have H1 := Lib.hid h1; clear h1
    by_cases h2 : fd = 0
    · have hb2 : ((fd : Int) != 0) = false := by simp [h2]
      have H2 := Lib.hid h2; clear h2
      by_cases h3 : fr = 0
      · have hb3 : ((fr : Int) != 0) = false := by simp [h3]
        have H3 := Lib.hid h3; clear h3
        go_wp2_with fail
        refine bodyPost_ret (v := .agg #[_, _, _, _, _]) (by simp [results, Try.results35, go_sem, k1_1, l1_1, n1_1, sz_set] <;> (first | rfl | (repeat' (first | rfl | apply And.intro)))) rfl (retN_mk (readN_zero HF.out HR.out HM.out H1.out H2.out H3.out) rfl rfl (by repeat (first | (with_reducible first | exact Below.refl _ _ | assumption | exact Nat.le_refl _ | refine Below.drew ?_ | refine Below.alloc ?_ ?_ _ | refine Below.setCell ?_ ?_ _ | refine le_alloc ?_ | refine le_set ?_ | refine le_drew ?_ | refine below_step (by assumption) ?_ ?_ | refine le_below (by assumption) ?_) | (dsimp only; omega))))
      · have hb3 : ((fr : Int) != 0) = true := by rw [bne_iff_ne]; omega
        have H3 := Lib.hid h3; clear h3
        go_wp2_with fail
        go_region_held3 (fun w' => w'.cell? ⟨w.heap.size, 0, none⟩ = some (.int .i64 8) ∧ w'.cell? ⟨w.heap.size, 1, none⟩ = some (.int .i64 23)) (go_keep)
          (first
            | (go_at_call 64; refine (least_c false _ _ (.inl ⟨rfl, rfl, rfl⟩) _).mono ?_; rintro e w2 ⟨rfl, hbb2⟩; obtain ⟨hc2, hf2⟩ := bcell hbb2; have hz2 := hbb2.size; (try simp only [sz_alloc, sz_drew, sz_set] at hz2 hc2 hf2); have l2_0 : w.heap.size < w2.heap.size := (by omega); have n2_0 : ¬ w.heap.size = w2.heap.size := (by omega); have m2_0 : ¬ w2.heap.size = w.heap.size := (by omega); have k2_0 := fun o => hc2 (w.heap.size) o (by omega); have f2_0 := fun o => hf2 (w.heap.size) o (by omega); (try simp (disch := (first | rfl | omega | (simp only [sz_alloc, sz_drew, sz_set]; omega))) only [sz_alloc, sz_drew, sz_set, World.cell?_drew, World.frozen?_drew, World.cell?_alloc_at, World.cell?_alloc_past, World.frozen?_alloc_at, World.frozen?_alloc_past, hc1, hf1] at k2_0 f2_0); have l2_1 : w.heap.size + 1 < w2.heap.size := (by omega); have n2_1 : ¬ w.heap.size + 1 = w2.heap.size := (by omega); have m2_1 : ¬ w2.heap.size = w.heap.size + 1 := (by omega); have k2_1 := fun o => hc2 (w.heap.size + 1) o (by omega); have f2_1 := fun o => hf2 (w.heap.size + 1) o (by omega); (try simp (disch := (first | rfl | omega | (simp only [sz_alloc, sz_drew, sz_set]; omega))) only [sz_alloc, sz_drew, sz_set, World.cell?_drew, World.frozen?_drew, World.cell?_alloc_at, World.cell?_alloc_past, World.frozen?_alloc_at, World.frozen?_alloc_past, hc1, hf1] at k2_1 f2_1); have l2_2 : w1.heap.size < w2.heap.size := (by omega); have n2_2 : ¬ w1.heap.size = w2.heap.size := (by omega); have m2_2 : ¬ w2.heap.size = w1.heap.size := (by omega); have k2_2 := fun o => hc2 (w1.heap.size) o (by omega); have f2_2 := fun o => hf2 (w1.heap.size) o (by omega); (try simp (disch := (first | rfl | omega | (simp only [sz_alloc, sz_drew, sz_set]; omega))) only [sz_alloc, sz_drew, sz_set, World.cell?_drew, World.frozen?_drew, World.cell?_alloc_at, World.cell?_alloc_past, World.frozen?_alloc_at, World.frozen?_alloc_past, hc1, hf1] at k2_2 f2_2)))
        rw [HB.out]
        go_wp2_with fail
        refine bodyPost_ret (v := .agg #[_, _, _, _, _]) (by simp [results, Try.results35, go_sem, k2_1] <;> (first | rfl | (repeat' (first | rfl | apply And.intro)))) rfl (retN_mk (readN_sub HF.out HR.out HM.out H1.out H2.out H3.out (by decide) rfl (by omega)) rfl rfl (by repeat (first | (with_reducible first | exact Below.refl _ _ | assumption | exact Nat.le_refl _ | refine Below.drew ?_ | refine Below.alloc ?_ ?_ _ | refine Below.setCell ?_ ?_ _ | refine le_alloc ?_ | refine le_set ?_ | refine le_drew ?_ | refine below_step (by assumption) ?_ ?_ | refine le_below (by assumption) ?_) | (dsimp only; omega))))
    · have hb2 : ((fd : Int) != 0) = true := by rw [bne_iff_ne]; omega
      have H2 := Lib.hid h2; clear h2
      go_wp2_with fail
      go_region_held3 (fun w' => w'.cell? ⟨w.heap.size, 0, none⟩ = some (.int .i64 8) ∧ w'.cell? ⟨w.heap.size, 1, none⟩ = some (.int .i64 23)) (go_keep)
        (first
          | (go_at_call 63; refine (most_c false _ _ (.inl ⟨rfl, rfl, rfl⟩) _).mono ?_; rintro e w2 ⟨rfl, hbb2⟩; obtain ⟨hc2, hf2⟩ := bcell hbb2; have hz2 := hbb2.size; (try simp only [sz_alloc, sz_drew, sz_set] at hz2 hc2 hf2); have l2_0 : w.heap.size < w2.heap.size := (by omega); have n2_0 : ¬ w.heap.size = w2.heap.size := (by omega); have m2_0 : ¬ w2.heap.size = w.heap.size := (by omega); have k2_0 := fun o => hc2 (w.heap.size) o (by omega); have f2_0 := fun o => hf2 (w.heap.size) o (by omega); (try simp (disch := (first | rfl | omega | (simp only [sz_alloc, sz_drew, sz_set]; omega))) only [sz_alloc, sz_drew, sz_set, World.cell?_drew, World.frozen?_drew, World.cell?_alloc_at, World.cell?_alloc_past, World.frozen?_alloc_at, World.frozen?_alloc_past, hc1, hf1] at k2_0 f2_0); have l2_1 : w.heap.size + 1 < w2.heap.size := (by omega); have n2_1 : ¬ w.heap.size + 1 = w2.heap.size := (by omega); have m2_1 : ¬ w2.heap.size = w.heap.size + 1 := (by omega); have k2_1 := fun o => hc2 (w.heap.size + 1) o (by omega); have f2_1 := fun o => hf2 (w.heap.size + 1) o (by omega); (try simp (disch := (first | rfl | omega | (simp only [sz_alloc, sz_drew, sz_set]; omega))) only [sz_alloc, sz_drew, sz_set, World.cell?_drew, World.frozen?_drew, World.cell?_alloc_at, World.cell?_alloc_past, World.frozen?_alloc_at, World.frozen?_alloc_past, hc1, hf1] at k2_1 f2_1); have l2_2 : w1.heap.size < w2.heap.size := (by omega); have n2_2 : ¬ w1.heap.size = w2.heap.size := (by omega); have m2_2 : ¬ w2.heap.size = w1.heap.size := (by omega); have k2_2 := fun o => hc2 (w1.heap.size) o (by omega); have f2_2 := fun o => hf2 (w1.heap.size) o (by omega); (try simp (disch := (first | rfl | omega | (simp only [sz_alloc, sz_drew, sz_set]; omega))) only [sz_alloc, sz_drew, sz_set, World.cell?_drew, World.frozen?_drew, World.cell?_alloc_at, World.cell?_alloc_past, World.frozen?_alloc_at, World.frozen?_alloc_past, hc1, hf1] at k2_2 f2_2)))
      rw [HB.out]
      go_wp2_with fail
      refine bodyPost_ret (v := .agg #[_, _, _, _, _]) (by simp [results, Try.results35, go_sem, k2_1] <;> (first | rfl | (repeat' (first | rfl | apply And.intro)))) rfl (retN_mk (readN_norm HF.out HR.out HM.out H1.out H2.out rfl rfl (by unfold fracT; simp only [if_true, Bool.false_eq_true, if_false]; omega)) rfl (or_frac fr 23 (by decide) hrl) (by repeat (first | (with_reducible first | exact Below.refl _ _ | assumption | exact Nat.le_refl _ | refine Below.drew ?_ | refine Below.alloc ?_ ?_ _ | refine Below.setCell ?_ ?_ _ | refine le_alloc ?_ | refine le_set ?_ | refine le_drew ?_ | refine below_step (by assumption) ?_ ?_ | refine le_below (by assumption) ?_) | (dsimp only; omega))))

theorem join_t (m : Bool) (top : Int) (k : Nat) (h0 : 1 - 1023 ≤ top) (h1 : top ≤ 1023) (hk : k ≤ 9007199254740992) (hs : Hid ((top + (1023 - 1)).toNat * 4503599627370496 + k < 9223372036854775808)) (w : World) :
    Calls Try.prog 81 #[.agg #[.int .i64 11, .int .i64 52], .bool m, .int .i64 top, .int .u64 k] w (RetU (noughtV true m + ((top + (1023 - 1)).toNat * 4503599627370496 + k)) w) := by
  have hB : bias true = 1023 := rfl
  have HK := Lib.hid hk; have HB := Lib.hid hB; clear hk hB
  go_enter Try.func81, Try.ntmps81
  go_wp2_with fail
  refine (most_c true _ _ (.inr ⟨rfl, rfl, rfl⟩) _).mono ?_; rintro e w1 ⟨rfl, hb1⟩; obtain ⟨hc1, hf1⟩ := bcell hb1; have hz1 := hb1.size; (try simp only [sz_alloc, sz_drew, sz_set] at hz1 hc1 hf1); have l1_0 : w.heap.size < w1.heap.size := (by omega); have n1_0 : ¬ w.heap.size = w1.heap.size := (by omega); have m1_0 : ¬ w1.heap.size = w.heap.size := (by omega); have k1_0 := fun o => hc1 (w.heap.size) o (by omega); have f1_0 := fun o => hf1 (w.heap.size) o (by omega); (try simp (disch := (first | rfl | omega | (simp only [sz_alloc, sz_drew, sz_set]; omega))) only [sz_alloc, sz_drew, sz_set, World.cell?_drew, World.frozen?_drew, World.cell?_alloc_at, World.cell?_alloc_past, World.frozen?_alloc_at, World.frozen?_alloc_past] at k1_0 f1_0)
  rw [HB.out]
  go_wp2_with fail
  go_region_held3 (fun w' => w'.cell? ⟨w.heap.size, 0, none⟩ = some (.int .i64 11) ∧ w'.cell? ⟨w.heap.size, 1, none⟩ = some (.int .i64 52)) (go_keep)
    (first
      | (go_at_call 52; refine (nought_c true _ _ (.inr ⟨rfl, rfl, rfl⟩) _ _).mono ?_; rintro e w2 ⟨rfl, hb2⟩; obtain ⟨hc2, hf2⟩ := bcell hb2; have hz2 := hb2.size; (try simp only [sz_alloc, sz_drew, sz_set] at hz2 hc2 hf2); have l2_0 : w.heap.size < w2.heap.size := (by omega); have n2_0 : ¬ w.heap.size = w2.heap.size := (by omega); have m2_0 : ¬ w2.heap.size = w.heap.size := (by omega); have k2_0 := fun o => hc2 (w.heap.size) o (by omega); have f2_0 := fun o => hf2 (w.heap.size) o (by omega); (try simp (disch := (first | rfl | omega | (simp only [sz_alloc, sz_drew, sz_set]; omega))) only [sz_alloc, sz_drew, sz_set, World.cell?_drew, World.frozen?_drew, World.cell?_alloc_at, World.cell?_alloc_past, World.frozen?_alloc_at, World.frozen?_alloc_past] at k2_0 f2_0)))
  all_goals go_wp2
  all_goals go_ret
  all_goals refine retU_mk ?_ (by repeat (first | (with_reducible first | exact Below.refl _ _ | assumption | exact Nat.le_refl _ | refine Below.drew ?_ | refine Below.alloc ?_ ?_ _ | refine Below.setCell ?_ ?_ _ | refine le_alloc ?_ | refine le_set ?_ | refine le_drew ?_ | refine below_step (by assumption) ?_ ?_ | refine le_below (by assumption) ?_) | (dsimp only; omega)))
  all_goals
    have HS := hs.out
    have hk := HK.out
    obtain ⟨t, ht⟩ : ∃ t : Nat, top + 1023 - 1 = t := ⟨(top + 1023 - 1).toNat, by omega⟩
    have e1 : (top + (1023 - 1)).toNat = t := by omega
    rw [e1] at HS ⊢
    rw [ht]
    exact join_num _ t k 4503599627370496 63 (by decide) (by cases m; exact .inl rfl; exact .inr rfl) HS

set_option maxHeartbeats 4000000 in
theorem read_t (a : Nat) (ha : Hid (a < 18446744073709551616)) (w : World) :
    Calls Try.prog 35 #[.agg #[.int .i64 11, .int .i64 52], .int .u64 a] w (RetN (readN true a) w) := by
  have hB : bias true = 1023 := rfl
  have hS : signB true = 9223372036854775808 := rfl
  have HB := Lib.hid hB; have HSG := Lib.hid hS; clear hB hS
  have e1 : bits .and .u64 ((a : Int) / 4503599627370496) 2047 = ((a / 4503599627370496 % 2048 : Nat) : Int) := by
    rw [show (a : Int) / 4503599627370496 = ((a / 4503599627370496 : Nat) : Int) by omega]
    exact and_mask (a / 4503599627370496) 11 (by have := ha.out; omega) (by decide)
  have e2 : bits .and .u64 (a : Int) 4503599627370495 = ((a % 4503599627370496 : Nat) : Int) := and_mask a 52 ha.out (by decide)
  have E1 := Lib.hid e1; have E2 := Lib.hid e2; clear e1 e2
  go_enter Try.func35, Try.ntmps35
  go_wp2_with fail
  go_region
  go_wp2_with fail
  rw [E1.out, E2.out, wrap64_nat _ (by have : a / 4503599627370496 % 2048 < 2048 := Nat.mod_lt _ (by decide); omega)]
  have hfl : a / 4503599627370496 % 2048 < 2048 := Nat.mod_lt _ (by decide)
  have hrl : a % 4503599627370496 < 4503599627370496 := Nat.mod_lt _ (by decide)
  revert hfl hrl
  generalize hF : a / 4503599627370496 % 2048 = fd
  generalize hR : a % 4503599627370496 = fr
  intro hfl hrl
  have HF := Lib.hid hF; have HR := Lib.hid hR; clear hF hR
  refine (sign_c true _ _ (.inr ⟨rfl, rfl, rfl⟩) _).mono ?_; rintro e w1 ⟨rfl, hb1⟩; obtain ⟨hc1, hf1⟩ := bcell hb1; have hz1 := hb1.size; (try simp only [sz_alloc, sz_drew, sz_set] at hz1 hc1 hf1); have l1_0 : w.heap.size < w1.heap.size := (by omega); have n1_0 : ¬ w.heap.size = w1.heap.size := (by omega); have m1_0 : ¬ w1.heap.size = w.heap.size := (by omega); have k1_0 := fun o => hc1 (w.heap.size) o (by omega); have f1_0 := fun o => hf1 (w.heap.size) o (by omega); (try simp (disch := (first | rfl | omega | (simp only [sz_alloc, sz_drew, sz_set]; omega))) only [sz_alloc, sz_drew, sz_set, World.cell?_drew, World.frozen?_drew, World.cell?_alloc_at, World.cell?_alloc_past, World.frozen?_alloc_at, World.frozen?_alloc_past] at k1_0 f1_0); have l1_1 : w.heap.size + 1 < w1.heap.size := (by omega); have n1_1 : ¬ w.heap.size + 1 = w1.heap.size := (by omega); have m1_1 : ¬ w1.heap.size = w.heap.size + 1 := (by omega); have k1_1 := fun o => hc1 (w.heap.size + 1) o (by omega); have f1_1 := fun o => hf1 (w.heap.size + 1) o (by omega); (try simp (disch := (first | rfl | omega | (simp only [sz_alloc, sz_drew, sz_set]; omega))) only [sz_alloc, sz_drew, sz_set, World.cell?_drew, World.frozen?_drew, World.cell?_alloc_at, World.cell?_alloc_past, World.frozen?_alloc_at, World.frozen?_alloc_past] at k1_1 f1_1)
  rw [HSG.out]
  have HM : Hid ((bits BinOp.and IntKind.u64 (a : Int) 9223372036854775808 != 0) = decide (a / signB true % 2 = 1)) := and_bit a 63 ha.out (by decide)
  by_cases h1 : fd = 2047
  · have hb1 : ((fd : Int) == 2047) = true := by simp [h1]
    have H1 := Lib.hid h1; clear h1
    go_wp2_with fail
    refine (classAtEnd_c true _ _ (.inr ⟨rfl, rfl, rfl⟩) _ _).mono ?_; rintro e w2 ⟨rfl, hb2⟩; obtain ⟨hc2, hf2⟩ := bcell hb2; have hz2 := hb2.size; (try simp only [sz_alloc, sz_drew, sz_set] at hz2 hc2 hf2); have l2_0 : w.heap.size < w2.heap.size := (by omega); have n2_0 : ¬ w.heap.size = w2.heap.size := (by omega); have m2_0 : ¬ w2.heap.size = w.heap.size := (by omega); have k2_0 := fun o => hc2 (w.heap.size) o (by omega); have f2_0 := fun o => hf2 (w.heap.size) o (by omega); (try simp (disch := (first | rfl | omega | (simp only [sz_alloc, sz_drew, sz_set]; omega))) only [sz_alloc, sz_drew, sz_set, World.cell?_drew, World.frozen?_drew, World.cell?_alloc_at, World.cell?_alloc_past, World.frozen?_alloc_at, World.frozen?_alloc_past, hc1, hf1] at k2_0 f2_0); have l2_1 : w.heap.size + 1 < w2.heap.size := (by omega); have n2_1 : ¬ w.heap.size + 1 = w2.heap.size := (by omega); have m2_1 : ¬ w2.heap.size = w.heap.size + 1 := (by omega); have k2_1 := fun o => hc2 (w.heap.size + 1) o (by omega); have f2_1 := fun o => hf2 (w.heap.size + 1) o (by omega); (try simp (disch := (first | rfl | omega | (simp only [sz_alloc, sz_drew, sz_set]; omega))) only [sz_alloc, sz_drew, sz_set, World.cell?_drew, World.frozen?_drew, World.cell?_alloc_at, World.cell?_alloc_past, World.frozen?_alloc_at, World.frozen?_alloc_past, hc1, hf1] at k2_1 f2_1); have l2_2 : w1.heap.size < w2.heap.size := (by omega); have n2_2 : ¬ w1.heap.size = w2.heap.size := (by omega); have m2_2 : ¬ w2.heap.size = w1.heap.size := (by omega); have k2_2 := fun o => hc2 (w1.heap.size) o (by omega); have f2_2 := fun o => hf2 (w1.heap.size) o (by omega); (try simp (disch := (first | rfl | omega | (simp only [sz_alloc, sz_drew, sz_set]; omega))) only [sz_alloc, sz_drew, sz_set, World.cell?_drew, World.frozen?_drew, World.cell?_alloc_at, World.cell?_alloc_past, World.frozen?_alloc_at, World.frozen?_alloc_past, hc1, hf1] at k2_2 f2_2)
    go_wp2_with fail
    refine bodyPost_ret (v := .agg #[_, _, _, _, _]) (by simp [results, Try.results35, go_sem, k2_1] <;> (first | rfl | (repeat' (first | rfl | apply And.intro)))) rfl (retN_mk (readN_end HF.out HR.out HM.out H1.out) rfl rfl (by repeat (first | (with_reducible first | exact Below.refl _ _ | assumption | exact Nat.le_refl _ | refine Below.drew ?_ | refine Below.alloc ?_ ?_ _ | refine Below.setCell ?_ ?_ _ | refine le_alloc ?_ | refine le_set ?_ | refine le_drew ?_ | refine below_step (by assumption) ?_ ?_ | refine le_below (by assumption) ?_) | (dsimp only; omega))))
  · have hb1 : ((fd : Int) == 2047) = false := by rw [beq_eq_false_iff_ne]; omega
    have H1 := Lib.hid h1; clear h1
    by_cases h2 : fd = 0
    · have hb2 : ((fd : Int) != 0) = false := by simp [h2]
      have H2 := Lib.hid h2; clear h2
      by_cases h3 : fr = 0
      · have hb3 : ((fr : Int) != 0) = false := by simp [h3]
        have H3 := Lib.hid h3; clear h3
        go_wp2_with fail
        refine bodyPost_ret (v := .agg #[_, _, _, _, _]) (by simp [results, Try.results35, go_sem, k1_1, l1_1, n1_1, sz_set] <;> (first | rfl | (repeat' (first | rfl | apply And.intro)))) rfl (retN_mk (readN_zero HF.out HR.out HM.out H1.out H2.out H3.out) rfl rfl (by repeat (first | (with_reducible first | exact Below.refl _ _ | assumption | exact Nat.le_refl _ | refine Below.drew ?_ | refine Below.alloc ?_ ?_ _ | refine Below.setCell ?_ ?_ _ | refine le_alloc ?_ | refine le_set ?_ | refine le_drew ?_ | refine below_step (by assumption) ?_ ?_ | refine le_below (by assumption) ?_) | (dsimp only; omega))))
      · have hb3 : ((fr : Int) != 0) = true := by rw [bne_iff_ne]; omega
        have H3 := Lib.hid h3; clear h3
        go_wp2_with fail
        go_region_held3 (fun w' => w'.cell? ⟨w.heap.size, 0, none⟩ = some (.int .i64 11) ∧ w'.cell? ⟨w.heap.size, 1, none⟩ = some (.int .i64 52)) (go_keep)
          (first
            | (go_at_call 64; refine (least_c true _ _ (.inr ⟨rfl, rfl, rfl⟩) _).mono ?_; rintro e w2 ⟨rfl, hbb2⟩; obtain ⟨hc2, hf2⟩ := bcell hbb2; have hz2 := hbb2.size; (try simp only [sz_alloc, sz_drew, sz_set] at hz2 hc2 hf2); have l2_0 : w.heap.size < w2.heap.size := (by omega); have n2_0 : ¬ w.heap.size = w2.heap.size := (by omega); have m2_0 : ¬ w2.heap.size = w.heap.size := (by omega); have k2_0 := fun o => hc2 (w.heap.size) o (by omega); have f2_0 := fun o => hf2 (w.heap.size) o (by omega); (try simp (disch := (first | rfl | omega | (simp only [sz_alloc, sz_drew, sz_set]; omega))) only [sz_alloc, sz_drew, sz_set, World.cell?_drew, World.frozen?_drew, World.cell?_alloc_at, World.cell?_alloc_past, World.frozen?_alloc_at, World.frozen?_alloc_past, hc1, hf1] at k2_0 f2_0); have l2_1 : w.heap.size + 1 < w2.heap.size := (by omega); have n2_1 : ¬ w.heap.size + 1 = w2.heap.size := (by omega); have m2_1 : ¬ w2.heap.size = w.heap.size + 1 := (by omega); have k2_1 := fun o => hc2 (w.heap.size + 1) o (by omega); have f2_1 := fun o => hf2 (w.heap.size + 1) o (by omega); (try simp (disch := (first | rfl | omega | (simp only [sz_alloc, sz_drew, sz_set]; omega))) only [sz_alloc, sz_drew, sz_set, World.cell?_drew, World.frozen?_drew, World.cell?_alloc_at, World.cell?_alloc_past, World.frozen?_alloc_at, World.frozen?_alloc_past, hc1, hf1] at k2_1 f2_1); have l2_2 : w1.heap.size < w2.heap.size := (by omega); have n2_2 : ¬ w1.heap.size = w2.heap.size := (by omega); have m2_2 : ¬ w2.heap.size = w1.heap.size := (by omega); have k2_2 := fun o => hc2 (w1.heap.size) o (by omega); have f2_2 := fun o => hf2 (w1.heap.size) o (by omega); (try simp (disch := (first | rfl | omega | (simp only [sz_alloc, sz_drew, sz_set]; omega))) only [sz_alloc, sz_drew, sz_set, World.cell?_drew, World.frozen?_drew, World.cell?_alloc_at, World.cell?_alloc_past, World.frozen?_alloc_at, World.frozen?_alloc_past, hc1, hf1] at k2_2 f2_2)))
        rw [HB.out]
        go_wp2_with fail
        refine bodyPost_ret (v := .agg #[_, _, _, _, _]) (by simp [results, Try.results35, go_sem, k2_1] <;> (first | rfl | (repeat' (first | rfl | apply And.intro)))) rfl (retN_mk (readN_sub HF.out HR.out HM.out H1.out H2.out H3.out (by decide) rfl (by omega)) rfl rfl (by repeat (first | (with_reducible first | exact Below.refl _ _ | assumption | exact Nat.le_refl _ | refine Below.drew ?_ | refine Below.alloc ?_ ?_ _ | refine Below.setCell ?_ ?_ _ | refine le_alloc ?_ | refine le_set ?_ | refine le_drew ?_ | refine below_step (by assumption) ?_ ?_ | refine le_below (by assumption) ?_) | (dsimp only; omega))))
    · have hb2 : ((fd : Int) != 0) = true := by rw [bne_iff_ne]; omega
      have H2 := Lib.hid h2; clear h2
      go_wp2_with fail
      go_region_held3 (fun w' => w'.cell? ⟨w.heap.size, 0, none⟩ = some (.int .i64 11) ∧ w'.cell? ⟨w.heap.size, 1, none⟩ = some (.int .i64 52)) (go_keep)
        (first
          | (go_at_call 63; refine (most_c true _ _ (.inr ⟨rfl, rfl, rfl⟩) _).mono ?_; rintro e w2 ⟨rfl, hbb2⟩; obtain ⟨hc2, hf2⟩ := bcell hbb2; have hz2 := hbb2.size; (try simp only [sz_alloc, sz_drew, sz_set] at hz2 hc2 hf2); have l2_0 : w.heap.size < w2.heap.size := (by omega); have n2_0 : ¬ w.heap.size = w2.heap.size := (by omega); have m2_0 : ¬ w2.heap.size = w.heap.size := (by omega); have k2_0 := fun o => hc2 (w.heap.size) o (by omega); have f2_0 := fun o => hf2 (w.heap.size) o (by omega); (try simp (disch := (first | rfl | omega | (simp only [sz_alloc, sz_drew, sz_set]; omega))) only [sz_alloc, sz_drew, sz_set, World.cell?_drew, World.frozen?_drew, World.cell?_alloc_at, World.cell?_alloc_past, World.frozen?_alloc_at, World.frozen?_alloc_past, hc1, hf1] at k2_0 f2_0); have l2_1 : w.heap.size + 1 < w2.heap.size := (by omega); have n2_1 : ¬ w.heap.size + 1 = w2.heap.size := (by omega); have m2_1 : ¬ w2.heap.size = w.heap.size + 1 := (by omega); have k2_1 := fun o => hc2 (w.heap.size + 1) o (by omega); have f2_1 := fun o => hf2 (w.heap.size + 1) o (by omega); (try simp (disch := (first | rfl | omega | (simp only [sz_alloc, sz_drew, sz_set]; omega))) only [sz_alloc, sz_drew, sz_set, World.cell?_drew, World.frozen?_drew, World.cell?_alloc_at, World.cell?_alloc_past, World.frozen?_alloc_at, World.frozen?_alloc_past, hc1, hf1] at k2_1 f2_1); have l2_2 : w1.heap.size < w2.heap.size := (by omega); have n2_2 : ¬ w1.heap.size = w2.heap.size := (by omega); have m2_2 : ¬ w2.heap.size = w1.heap.size := (by omega); have k2_2 := fun o => hc2 (w1.heap.size) o (by omega); have f2_2 := fun o => hf2 (w1.heap.size) o (by omega); (try simp (disch := (first | rfl | omega | (simp only [sz_alloc, sz_drew, sz_set]; omega))) only [sz_alloc, sz_drew, sz_set, World.cell?_drew, World.frozen?_drew, World.cell?_alloc_at, World.cell?_alloc_past, World.frozen?_alloc_at, World.frozen?_alloc_past, hc1, hf1] at k2_2 f2_2)))
      rw [HB.out]
      go_wp2_with fail
      refine bodyPost_ret (v := .agg #[_, _, _, _, _]) (by simp [results, Try.results35, go_sem, k2_1] <;> (first | rfl | (repeat' (first | rfl | apply And.intro)))) rfl (retN_mk (readN_norm HF.out HR.out HM.out H1.out H2.out rfl rfl (by unfold fracT; simp only [if_true, Bool.false_eq_true, if_false]; omega)) rfl (or_frac fr 52 (by decide) hrl) (by repeat (first | (with_reducible first | exact Below.refl _ _ | assumption | exact Nat.le_refl _ | refine Below.drew ?_ | refine Below.alloc ?_ ?_ _ | refine Below.setCell ?_ ?_ _ | refine le_alloc ?_ | refine le_set ?_ | refine le_drew ?_ | refine below_step (by assumption) ?_ ?_ | refine le_below (by assumption) ?_) | (dsimp only; omega))))
end Go.Proofs.Ythjdeopfbjmmeaa
