/- The walk of WalkPages. -/
import Derived.Test.YthhlcchofilimaaDoorC1
import Derived.Test.YthhlcchofilimaaDoorM2
namespace Go.Proofs.YthhlcchofilimaaDoor
open Go.ChangeShapes Go.WideShapes Go.ChangeAt Go.RowKit Go.Sort Y
set_option linter.unusedVariables false
set_option linter.unusedSimpArgs false

theorem low_and (A s : Nat) (hA : A < 18446744073709551616) (hs : s < 64) : bits .and .u64 (A : Int) ((2 ^ s - 1 : Nat) : Int) = ((A % 2 ^ s : Nat) : Int) := by
  have hp : 2 ^ s < 18446744073709551616 := Nat.pow_lt_pow_right (a := 2) (by decide) hs
  rw [u_and A (2 ^ s - 1) hA (by omega), Nat.and_two_pow_sub_one_eq_mod]
theorem low_not (A s : Nat) (hA : A < 18446744073709551616) (hs : s < 64) : bits .andNot .u64 (A : Int) ((2 ^ s - 1 : Nat) : Int) = ((A / 2 ^ s * 2 ^ s : Nat) : Int) := by
  have hp : 2 ^ s < 18446744073709551616 := Nat.pow_lt_pow_right (a := 2) (by decide) hs
  have hp0 : 0 < 2 ^ s := Nat.two_pow_pos s
  rw [u_andNot A (2 ^ s - 1) hA (by omega)]
  congr 1
  refine e64 (and_lt _ _ hA) (Nat.lt_of_le_of_lt (Nat.div_mul_le_self _ _) hA) (fun i hi => ?_)
  rw [Nat.testBit_and, show 18446744073709551615 - (2 ^ s - 1) = 2 ^ 64 - ((2 ^ s - 1) + 1) by omega, Nat.testBit_two_pow_sub_succ (by show _ < _; omega), Nat.testBit_two_pow_sub_one,
    show A / 2 ^ s * 2 ^ s = (A / 2 ^ s) <<< s by rw [Nat.shiftLeft_eq], Nat.testBit_shiftLeft, Nat.testBit_div_two_pow]
  by_cases h : s ≤ i
  · rw [show i - s + s = i by omega]; simp [h, hi]
  · simp [h]; intro _; omega
theorem low_or (N a s : Nat) (hN : N % 2 ^ s = 0) (ha : a < 2 ^ s) (hl : N + a < 18446744073709551616) : bits .or .u64 (N : Int) (a : Int) = ((N + a : Nat) : Int) := by
  rw [u_or N a (by omega) (by omega)]
  have e : N = 2 ^ s * (N / 2 ^ s) := by have := Nat.div_add_mod N (2 ^ s); omega
  have := Nat.two_pow_add_eq_or_of_lt ha (N / 2 ^ s)
  rw [← e] at this
  rw [this]
theorem quo_same (A a s : Nat) : (A / 2 ^ s * 2 ^ s + a % 2 ^ s) / 2 ^ s = A / 2 ^ s := by
  rw [Nat.add_comm, Nat.add_mul_div_right _ _ (Nat.two_pow_pos s), Nat.div_eq_of_lt (Nat.mod_lt _ (Nat.two_pow_pos s)), Nat.zero_add]
theorem quo_zero (A s : Nat) : A / 2 ^ s * 2 ^ s % 2 ^ s = 0 := Nat.mul_mod_left _ _
theorem next_lt (e : Nat) : 4096 * nextN e < 72057594037927936 := by
  have : nextN e < 2 ^ 44 := Nat.mod_lt _ (by decide)
  unfold nextN at *; omega
set_option maxRecDepth 100000 in
set_option maxHeartbeats 4000000 in
theorem pages_core (hW : WalkOk) (hR : ReachOk) (hM : ModeOk) (hAl : AllowsOk) (w : World) (ia : Option Addr) (ig io n ic : Nat) (X : Nat → Nat) (S : Nat → Nat) (m k : Int) (A aw : Nat) (hS : Hid (OkS S)) (hA : Hid (A < 18446744073709551616)) (haw : Hid (aw < 18446744073709551616)) (hI : Hid (U.M.Byt w ia ig io n ic X)) (hG : Hid (G w)) : Calls Tryd.prog 5 #[.slice ia n ic, .agg (cs S), .int .i64 m, .int .i64 k, .int .u64 A, .int .u64 aw] w (RetB true w) := by
  have HF := Lib.hid (fun u hu => fixed_w hW hR hM hAl u hu)
  have R0 := Lib.hid (row_new w (cs S) 26)
  obtain ⟨W0, hW0⟩ : ∃ W0, W0 = w.alloc (Obj.cells (cs S) 26) := ⟨_, rfl⟩
  have hb : Below w.heap.size w W0 := by rw [hW0]; exact (Below.refl _ _).alloc (Nat.le_refl _) _
  replace hG : Hid (G W0) := g_below hG.out hb hG.out.1
  have HB : Hid (Below w.heap.size w W0) := hb
  replace hI : Hid (U.M.Byt W0 ia ig io n ic X) := hI.out.below hb
  rw [← hW0] at R0
  have LC : Hid (w.heap.size < W0.heap.size) := by show _ < _; rw [hW0, sz_alloc]; exact Nat.lt_succ_self _
  have HW := Lib.hid hW0
  clear hW0 hb
  go_enter Tryd.func5, Tryd.ntmps5
  go_upto_region 1 with fail
  rw [show w.alloc (Obj.cells (cs S) 26) = W0 from HW.out.symm]
  clear HW
  generalize hcb : w.heap.size = cb at R0 LC ⊢
  have hcb' := Lib.hid hcb
  clear hcb
  go_wp2_with fail
  refine (HF.out _ hG).mono ?_; rintro e w1 ⟨rfl, hb⟩
  replace hG : Hid (G w1) := g_below hG.out hb hG.out.1
  replace HB := Lib.hid (below_step hb HB.out HB.out.size)
  replace hI : Hid (U.M.Byt w1 ia ig io n ic X) := hI.out.below hb
  replace R0 := Lib.hid (R0.out.below hb LC.out)
  replace LC : Hid (cb < w1.heap.size) := Nat.lt_of_lt_of_le LC.out hb.size
  clear hb HF
  go_wp2_with fail
  refine (U.new_c ia ig io n ic X none 0 0 0 0 [] 0 0 0 0 none 0 0 w1 hI (Lib.hid ⟨rfl, Nat.le_refl _, fun h => absurd h (Nat.lt_irrefl _), fun i hi => absurd hi (by omega)⟩) (Lib.hid (by decide))).mono ?_
  rintro e w2 ⟨hy, hn, hb⟩
  replace hG : Hid (G w2) := g_below hG.out hb hG.out.1
  replace HB := Lib.hid (below_step hb HB.out HB.out.size)
  replace R0 := Lib.hid (R0.out.below hb LC.out)
  replace LC : Hid (cb < w2.heap.size) := Nat.lt_of_lt_of_le LC.out hb.size
  clear hb hI
  cases hok : U.okNew n [] with
  | false =>
    obtain rfl := hn hok
    clear hy hn
    go_wp2_with fail
    go_ret
    exact retB_mk rfl HB.out
  | true =>
    obtain ⟨b, R, W, rfl, q, -⟩ := hy hok
    have HQ : Hid (BusAt b (U.Bs0 n X []) w2) := ⟨R, W, q⟩
    clear hy hn q
    generalize U.Bs0 n X [] = B at HQ
    have CW := Lib.hid (fun at0 (h : at0 < 18446744073709551616) u (hq : BusAt b B u) (hg : Hid (G u)) (hl : cb < u.heap.size) (hr : Row u cb 26 (cs S)) => hW B b S cb m k at0 u hq hS h hg hl hr)
    go_wp2_with fail
    refine (CW.out A hA.out w2 HQ.out hG LC.out R0.out).mono ?_
    rintro e w3 ⟨rfl, hb⟩
    replace hG : Hid (G w3) := g_below hG.out hb hG.out.1
    replace HB := Lib.hid (below_step hb HB.out HB.out.size)
    replace R0 := Lib.hid (R0.out.below hb LC.out)
    replace LC : Hid (cb < w3.heap.size) := Nat.lt_of_lt_of_le LC.out hb.size
    replace HQ := Lib.hid (HQ.out.below hb)
    clear hb
    by_cases hc0 : (walkF B.F S m k A).cau = 0
    · rcases walk_inv hc0 with ⟨hsch, hwk⟩ | ⟨L, tb, x, e, hL, hf, hl, hp, ha, hwk, hnx⟩
      · rw [hwk]
        clear hwk hc0 CW HQ hG hA haw hok
        simp only [WRes.leaf]
        have ks : w3.cell? ⟨cb, 20, none⟩ = some (.int .u64 (S 20 : Nat)) := (R0.out.cell 20).trans rfl
        have hne : ¬ cb = w3.heap.size := Nat.ne_of_lt LC.out
        have hlt : cb < w3.heap.size := LC.out
        by_cases h3 : m = 3
        · subst h3
          clear hsch R0 LC
          go_wp2_with fail
          go_ret
          exact retB_mk (by simp) (by have h9 := HB.out; exact (by repeat (first | (with_reducible first | exact Below.refl _ _ | assumption | exact Nat.le_refl _ | refine Below.drew ?_ | refine Below.alloc ?_ ?_ _ | refine Below.setCell ?_ ?_ _ | refine le_alloc ?_ | refine le_set ?_ | refine le_drew ?_ | refine below_step (by assumption) ?_ ?_ | refine le_below (by assumption) ?_) | (dsimp only; omega))))
        · have e3 : (m == 3) = false := by simpa using h3
          have e8 : (((S 20 : Nat) : Int) / 1152921504606846976 != 8) = true := by
            have h8 : S 20 / 2 ^ 60 ≠ 8 := hsch.resolve_left h3
            simp only [bne_iff_ne, ne_eq]; omega
          clear hsch R0 LC h3
          go_wp2_with fail
          go_ret
          exact retB_mk (by simp) (by have h9 := HB.out; exact (by repeat (first | (with_reducible first | exact Below.refl _ _ | assumption | exact Nat.le_refl _ | refine Below.drew ?_ | refine Below.alloc ?_ ?_ _ | refine Below.setCell ?_ ?_ _ | refine le_alloc ?_ | refine le_set ?_ | refine le_drew ?_ | refine below_step (by assumption) ?_ ?_ | refine le_below (by assumption) ?_) | (dsimp only; omega))))
      · have hb4 : Below w3.heap.size w3 (w3.alloc (Obj.cells #[.int .u64 0] 43)) := (Below.refl _ _).alloc (Nat.le_refl _) _
        clear hb4
        have hA' := hA.out
        have hN := next_lt e
        have h012 : L = 0 ∨ L = 1 ∨ L = 2 := by omega
        have hx64 : Hid (True) := True.intro
        rcases h012 with rfl | rfl | rfl
        · have hB2 : (A / 2 ^ 12 * 2 ^ 12 + aw % 2 ^ 12) / 2 ^ (12 + 9 * 0) = A / 2 ^ (12 + 9 * 0) := by
            exact quo_same A aw 12
          have hm2 : (A / 2 ^ 12 * 2 ^ 12 + aw % 2 ^ 12) % 2 ^ 12 = aw % 2 ^ 12 := by omega
          have hlt2 : A / 2 ^ 12 * 2 ^ 12 + aw % 2 ^ 12 < 18446744073709551616 := by omega
          have hw2 := walk_pages hf hl hp ha hnx hB2
          replace ha : 4096 * nextN e % 2 ^ 12 = 0 := ha
          replace hw2 : walkF B.F S m k (A / 2 ^ 12 * 2 ^ 12 + aw % 2 ^ 12) = ⟨4096 * nextN e + (A / 2 ^ 12 * 2 ^ 12 + aw % 2 ^ 12) % 2 ^ 12, 0, e, x, 0⟩ := hw2
          rw [hm2] at hw2
          replace hwk : walkF B.F S m k A = ⟨4096 * nextN e + A % 2 ^ 12, 0, e, x, 0⟩ := hwk
          have f1 : bits .and .u64 (aw : Int) 4095 = ((aw % 2 ^ 12 : Nat) : Int) := low_and aw 12 haw.out (by decide)
          have f2 : bits .andNot .u64 (A : Int) 4095 = ((A / 2 ^ 12 * 2 ^ 12 : Nat) : Int) := low_not A 12 hA' (by decide)
          have f3 := low_or (A / 2 ^ 12 * 2 ^ 12) (aw % 2 ^ 12) 12 (quo_zero A 12) (Nat.mod_lt _ (by decide)) hlt2
          obtain ⟨ad, had⟩ : ∃ ad, 4096 * nextN e + A % 2 ^ 12 = ad := ⟨_, rfl⟩
          rw [had] at hwk
          have f4 : bits .andNot .u64 (ad : Int) 4095 = ((ad / 2 ^ 12 * 2 ^ 12 : Nat) : Int) := low_not ad 12 (by omega) (by decide)
          rw [show ad / 2 ^ 12 * 2 ^ 12 = 4096 * nextN e by omega] at f4
          have f5 := low_or (4096 * nextN e) (aw % 2 ^ 12) 12 ha (Nat.mod_lt _ (by decide)) (by omega)
          have f6 : bits .and .u64 (ad : Int) 4095 = ((ad % 2 ^ 12 : Nat) : Int) := low_and ad 12 (by omega) (by decide)
          rw [show ad % 2 ^ 12 = A % 2 ^ 12 by omega] at f6
          have f7 : bits .and .u64 (A : Int) 4095 = ((A % 2 ^ 12 : Nat) : Int) := low_and A 12 hA' (by decide)
          clear hB2 hm2 ha hf hl hp hnx hN
          rw [hwk]
          simp only [WRes.leaf]
          clear hwk hc0 hok
          generalize 4096 * nextN e + aw % 2 ^ 12 = ad2 at *
          clear had
          generalize 4096 * nextN e = N at *
          generalize A / 2 ^ 12 * 2 ^ 12 + aw % 2 ^ 12 = B2 at *
          generalize A / 2 ^ 12 * 2 ^ 12 = Q at *
          generalize aw % 2 ^ 12 = a at *
          generalize A % 2 ^ 12 = lo at *
          have CW2 := CW.out B2 hlt2
          rw [hw2] at CW2
          unfold RetWk WRes.leaf at CW2
          have CW3 := Lib.hid CW2
          clear CW CW2 hw2 hlt2 hA'
          obtain ⟨w4, hw4⟩ : ∃ w4, w4 = w3.alloc (Obj.cells #[.int .u64 ad, .int .i64 0, .int .u64 e, .int .u64 x] 43) := ⟨_, rfl⟩
          have hb : Below w3.heap.size w3 w4 := by rw [hw4]; exact (Below.refl _ _).alloc (Nat.le_refl _) _
          have RL : Hid (Row w4 w3.heap.size 43 #[.int .u64 ad, .int .i64 0, .int .u64 e, .int .u64 x]) := by show Row _ _ _ _; rw [hw4]; exact row_new _ _ _
          have LL : Hid (w3.heap.size < w4.heap.size) := by show _ < _; rw [hw4, sz_alloc]; exact Nat.lt_succ_self _
          have HW4 := Lib.hid hw4
          replace hG : Hid (G w4) := g_below hG.out hb hG.out.1
          replace HB := Lib.hid (below_step hb HB.out HB.out.size)
          replace R0 := Lib.hid (R0.out.below hb LC.out)
          replace LC : Hid (cb < w4.heap.size) := Nat.lt_of_lt_of_le LC.out hb.size
          replace HQ := Lib.hid (HQ.out.below hb)
          clear hb hw4
          go_upto_region 15 with fail
          rw [show w3.alloc (Obj.cells #[.int .u64 ad, .int .i64 0, .int .u64 e, .int .u64 x] 43) = w4 from HW4.out.symm]
          clear HW4
          generalize w3.heap.size = lb at RL LL ⊢
          clear w3
          go_wp2_with fail
          refine (CW3.out w4 HQ.out hG LC.out R0.out).mono ?_
          rintro e5 w5 ⟨rfl, hb⟩
          replace HB := Lib.hid (below_step hb HB.out HB.out.size)
          replace RL := Lib.hid (RL.out.below hb LL.out)
          replace LL : Hid (lb < w5.heap.size) := Nat.lt_of_lt_of_le LL.out hb.size
          clear hb CW3 HQ hG R0 LC
          have k0 : w5.cell? ⟨lb, 0, none⟩ = some (.int .u64 ad) := RL.out.cell 0
          have k1 : w5.cell? ⟨lb, 1, none⟩ = some (.int .i64 0) := RL.out.cell 1
          have k2 : w5.cell? ⟨lb, 2, none⟩ = some (.int .u64 e) := RL.out.cell 2
          have k3 : w5.cell? ⟨lb, 3, none⟩ = some (.int .u64 x) := RL.out.cell 3
          have n1 : ¬ lb = w5.heap.size := Nat.ne_of_lt LL.out
          have n2 : lb < w5.heap.size := LL.out
          clear RL LL
          go_wp2_with fail
          go_ret
          exact retB_mk (by simp) (by have h9 := HB.out; exact (by repeat (first | (with_reducible first | exact Below.refl _ _ | assumption | exact Nat.le_refl _ | refine Below.drew ?_ | refine Below.alloc ?_ ?_ _ | refine Below.setCell ?_ ?_ _ | refine le_alloc ?_ | refine le_set ?_ | refine le_drew ?_ | refine below_step (by assumption) ?_ ?_ | refine le_below (by assumption) ?_) | (dsimp only; omega))))
        · have hB2 : (A / 2 ^ 21 * 2 ^ 21 + aw % 2 ^ 21) / 2 ^ (12 + 9 * 1) = A / 2 ^ (12 + 9 * 1) := by
            exact quo_same A aw 21
          have hm2 : (A / 2 ^ 21 * 2 ^ 21 + aw % 2 ^ 21) % 2 ^ 21 = aw % 2 ^ 21 := by omega
          have hlt2 : A / 2 ^ 21 * 2 ^ 21 + aw % 2 ^ 21 < 18446744073709551616 := by omega
          have hw2 := walk_pages hf hl hp ha hnx hB2
          replace ha : 4096 * nextN e % 2 ^ 21 = 0 := ha
          replace hw2 : walkF B.F S m k (A / 2 ^ 21 * 2 ^ 21 + aw % 2 ^ 21) = ⟨4096 * nextN e + (A / 2 ^ 21 * 2 ^ 21 + aw % 2 ^ 21) % 2 ^ 21, 1, e, x, 0⟩ := hw2
          rw [hm2] at hw2
          replace hwk : walkF B.F S m k A = ⟨4096 * nextN e + A % 2 ^ 21, 1, e, x, 0⟩ := hwk
          have f1 : bits .and .u64 (aw : Int) 2097151 = ((aw % 2 ^ 21 : Nat) : Int) := low_and aw 21 haw.out (by decide)
          have f2 : bits .andNot .u64 (A : Int) 2097151 = ((A / 2 ^ 21 * 2 ^ 21 : Nat) : Int) := low_not A 21 hA' (by decide)
          have f3 := low_or (A / 2 ^ 21 * 2 ^ 21) (aw % 2 ^ 21) 21 (quo_zero A 21) (Nat.mod_lt _ (by decide)) hlt2
          obtain ⟨ad, had⟩ : ∃ ad, 4096 * nextN e + A % 2 ^ 21 = ad := ⟨_, rfl⟩
          rw [had] at hwk
          have f4 : bits .andNot .u64 (ad : Int) 2097151 = ((ad / 2 ^ 21 * 2 ^ 21 : Nat) : Int) := low_not ad 21 (by omega) (by decide)
          rw [show ad / 2 ^ 21 * 2 ^ 21 = 4096 * nextN e by omega] at f4
          have f5 := low_or (4096 * nextN e) (aw % 2 ^ 21) 21 ha (Nat.mod_lt _ (by decide)) (by omega)
          have f6 : bits .and .u64 (ad : Int) 2097151 = ((ad % 2 ^ 21 : Nat) : Int) := low_and ad 21 (by omega) (by decide)
          rw [show ad % 2 ^ 21 = A % 2 ^ 21 by omega] at f6
          have f7 : bits .and .u64 (A : Int) 2097151 = ((A % 2 ^ 21 : Nat) : Int) := low_and A 21 hA' (by decide)
          clear hB2 hm2 ha hf hl hp hnx hN
          rw [hwk]
          simp only [WRes.leaf]
          clear hwk hc0 hok
          generalize 4096 * nextN e + aw % 2 ^ 21 = ad2 at *
          clear had
          generalize 4096 * nextN e = N at *
          generalize A / 2 ^ 21 * 2 ^ 21 + aw % 2 ^ 21 = B2 at *
          generalize A / 2 ^ 21 * 2 ^ 21 = Q at *
          generalize aw % 2 ^ 21 = a at *
          generalize A % 2 ^ 21 = lo at *
          have CW2 := CW.out B2 hlt2
          rw [hw2] at CW2
          unfold RetWk WRes.leaf at CW2
          have CW3 := Lib.hid CW2
          clear CW CW2 hw2 hlt2 hA'
          obtain ⟨w4, hw4⟩ : ∃ w4, w4 = w3.alloc (Obj.cells #[.int .u64 ad, .int .i64 1, .int .u64 e, .int .u64 x] 43) := ⟨_, rfl⟩
          have hb : Below w3.heap.size w3 w4 := by rw [hw4]; exact (Below.refl _ _).alloc (Nat.le_refl _) _
          have RL : Hid (Row w4 w3.heap.size 43 #[.int .u64 ad, .int .i64 1, .int .u64 e, .int .u64 x]) := by show Row _ _ _ _; rw [hw4]; exact row_new _ _ _
          have LL : Hid (w3.heap.size < w4.heap.size) := by show _ < _; rw [hw4, sz_alloc]; exact Nat.lt_succ_self _
          have HW4 := Lib.hid hw4
          replace hG : Hid (G w4) := g_below hG.out hb hG.out.1
          replace HB := Lib.hid (below_step hb HB.out HB.out.size)
          replace R0 := Lib.hid (R0.out.below hb LC.out)
          replace LC : Hid (cb < w4.heap.size) := Nat.lt_of_lt_of_le LC.out hb.size
          replace HQ := Lib.hid (HQ.out.below hb)
          clear hb hw4
          go_upto_region 15 with fail
          rw [show w3.alloc (Obj.cells #[.int .u64 ad, .int .i64 1, .int .u64 e, .int .u64 x] 43) = w4 from HW4.out.symm]
          clear HW4
          generalize w3.heap.size = lb at RL LL ⊢
          clear w3
          go_wp2_with fail
          refine (CW3.out w4 HQ.out hG LC.out R0.out).mono ?_
          rintro e5 w5 ⟨rfl, hb⟩
          replace HB := Lib.hid (below_step hb HB.out HB.out.size)
          replace RL := Lib.hid (RL.out.below hb LL.out)
          replace LL : Hid (lb < w5.heap.size) := Nat.lt_of_lt_of_le LL.out hb.size
          clear hb CW3 HQ hG R0 LC
          have k0 : w5.cell? ⟨lb, 0, none⟩ = some (.int .u64 ad) := RL.out.cell 0
          have k1 : w5.cell? ⟨lb, 1, none⟩ = some (.int .i64 1) := RL.out.cell 1
          have k2 : w5.cell? ⟨lb, 2, none⟩ = some (.int .u64 e) := RL.out.cell 2
          have k3 : w5.cell? ⟨lb, 3, none⟩ = some (.int .u64 x) := RL.out.cell 3
          have n1 : ¬ lb = w5.heap.size := Nat.ne_of_lt LL.out
          have n2 : lb < w5.heap.size := LL.out
          clear RL LL
          go_wp2_with fail
          go_ret
          exact retB_mk (by simp) (by have h9 := HB.out; exact (by repeat (first | (with_reducible first | exact Below.refl _ _ | assumption | exact Nat.le_refl _ | refine Below.drew ?_ | refine Below.alloc ?_ ?_ _ | refine Below.setCell ?_ ?_ _ | refine le_alloc ?_ | refine le_set ?_ | refine le_drew ?_ | refine below_step (by assumption) ?_ ?_ | refine le_below (by assumption) ?_) | (dsimp only; omega))))
        · have hB2 : (A / 2 ^ 30 * 2 ^ 30 + aw % 2 ^ 30) / 2 ^ (12 + 9 * 2) = A / 2 ^ (12 + 9 * 2) := by
            exact quo_same A aw 30
          have hm2 : (A / 2 ^ 30 * 2 ^ 30 + aw % 2 ^ 30) % 2 ^ 30 = aw % 2 ^ 30 := by omega
          have hlt2 : A / 2 ^ 30 * 2 ^ 30 + aw % 2 ^ 30 < 18446744073709551616 := by omega
          have hw2 := walk_pages hf hl hp ha hnx hB2
          replace ha : 4096 * nextN e % 2 ^ 30 = 0 := ha
          replace hw2 : walkF B.F S m k (A / 2 ^ 30 * 2 ^ 30 + aw % 2 ^ 30) = ⟨4096 * nextN e + (A / 2 ^ 30 * 2 ^ 30 + aw % 2 ^ 30) % 2 ^ 30, 2, e, x, 0⟩ := hw2
          rw [hm2] at hw2
          replace hwk : walkF B.F S m k A = ⟨4096 * nextN e + A % 2 ^ 30, 2, e, x, 0⟩ := hwk
          have f1 : bits .and .u64 (aw : Int) 1073741823 = ((aw % 2 ^ 30 : Nat) : Int) := low_and aw 30 haw.out (by decide)
          have f2 : bits .andNot .u64 (A : Int) 1073741823 = ((A / 2 ^ 30 * 2 ^ 30 : Nat) : Int) := low_not A 30 hA' (by decide)
          have f3 := low_or (A / 2 ^ 30 * 2 ^ 30) (aw % 2 ^ 30) 30 (quo_zero A 30) (Nat.mod_lt _ (by decide)) hlt2
          obtain ⟨ad, had⟩ : ∃ ad, 4096 * nextN e + A % 2 ^ 30 = ad := ⟨_, rfl⟩
          rw [had] at hwk
          have f4 : bits .andNot .u64 (ad : Int) 1073741823 = ((ad / 2 ^ 30 * 2 ^ 30 : Nat) : Int) := low_not ad 30 (by omega) (by decide)
          rw [show ad / 2 ^ 30 * 2 ^ 30 = 4096 * nextN e by omega] at f4
          have f5 := low_or (4096 * nextN e) (aw % 2 ^ 30) 30 ha (Nat.mod_lt _ (by decide)) (by omega)
          have f6 : bits .and .u64 (ad : Int) 1073741823 = ((ad % 2 ^ 30 : Nat) : Int) := low_and ad 30 (by omega) (by decide)
          rw [show ad % 2 ^ 30 = A % 2 ^ 30 by omega] at f6
          have f7 : bits .and .u64 (A : Int) 1073741823 = ((A % 2 ^ 30 : Nat) : Int) := low_and A 30 hA' (by decide)
          clear hB2 hm2 ha hf hl hp hnx hN
          rw [hwk]
          simp only [WRes.leaf]
          clear hwk hc0 hok
          generalize 4096 * nextN e + aw % 2 ^ 30 = ad2 at *
          clear had
          generalize 4096 * nextN e = N at *
          generalize A / 2 ^ 30 * 2 ^ 30 + aw % 2 ^ 30 = B2 at *
          generalize A / 2 ^ 30 * 2 ^ 30 = Q at *
          generalize aw % 2 ^ 30 = a at *
          generalize A % 2 ^ 30 = lo at *
          have CW2 := CW.out B2 hlt2
          rw [hw2] at CW2
          unfold RetWk WRes.leaf at CW2
          have CW3 := Lib.hid CW2
          clear CW CW2 hw2 hlt2 hA'
          obtain ⟨w4, hw4⟩ : ∃ w4, w4 = w3.alloc (Obj.cells #[.int .u64 ad, .int .i64 2, .int .u64 e, .int .u64 x] 43) := ⟨_, rfl⟩
          have hb : Below w3.heap.size w3 w4 := by rw [hw4]; exact (Below.refl _ _).alloc (Nat.le_refl _) _
          have RL : Hid (Row w4 w3.heap.size 43 #[.int .u64 ad, .int .i64 2, .int .u64 e, .int .u64 x]) := by show Row _ _ _ _; rw [hw4]; exact row_new _ _ _
          have LL : Hid (w3.heap.size < w4.heap.size) := by show _ < _; rw [hw4, sz_alloc]; exact Nat.lt_succ_self _
          have HW4 := Lib.hid hw4
          replace hG : Hid (G w4) := g_below hG.out hb hG.out.1
          replace HB := Lib.hid (below_step hb HB.out HB.out.size)
          replace R0 := Lib.hid (R0.out.below hb LC.out)
          replace LC : Hid (cb < w4.heap.size) := Nat.lt_of_lt_of_le LC.out hb.size
          replace HQ := Lib.hid (HQ.out.below hb)
          clear hb hw4
          go_upto_region 15 with fail
          rw [show w3.alloc (Obj.cells #[.int .u64 ad, .int .i64 2, .int .u64 e, .int .u64 x] 43) = w4 from HW4.out.symm]
          clear HW4
          generalize w3.heap.size = lb at RL LL ⊢
          clear w3
          go_wp2_with fail
          refine (CW3.out w4 HQ.out hG LC.out R0.out).mono ?_
          rintro e5 w5 ⟨rfl, hb⟩
          replace HB := Lib.hid (below_step hb HB.out HB.out.size)
          replace RL := Lib.hid (RL.out.below hb LL.out)
          replace LL : Hid (lb < w5.heap.size) := Nat.lt_of_lt_of_le LL.out hb.size
          clear hb CW3 HQ hG R0 LC
          have k0 : w5.cell? ⟨lb, 0, none⟩ = some (.int .u64 ad) := RL.out.cell 0
          have k1 : w5.cell? ⟨lb, 1, none⟩ = some (.int .i64 2) := RL.out.cell 1
          have k2 : w5.cell? ⟨lb, 2, none⟩ = some (.int .u64 e) := RL.out.cell 2
          have k3 : w5.cell? ⟨lb, 3, none⟩ = some (.int .u64 x) := RL.out.cell 3
          have n1 : ¬ lb = w5.heap.size := Nat.ne_of_lt LL.out
          have n2 : lb < w5.heap.size := LL.out
          clear RL LL
          go_wp2_with fail
          go_ret
          exact retB_mk (by simp) (by have h9 := HB.out; exact (by repeat (first | (with_reducible first | exact Below.refl _ _ | assumption | exact Nat.le_refl _ | refine Below.drew ?_ | refine Below.alloc ?_ ?_ _ | refine Below.setCell ?_ ?_ _ | refine le_alloc ?_ | refine le_set ?_ | refine le_drew ?_ | refine below_step (by assumption) ?_ ?_ | refine le_below (by assumption) ?_) | (dsimp only; omega))))
    · obtain ⟨hwk, hlt16⟩ := walk_cause hc0
      generalize (walkF B.F S m k A).cau = c at hwk hlt16 hc0
      rw [hwk]
      clear hwk CW HQ hG R0 LC hA haw hok
      simp only [noW, WRes.leaf]
      have e1 : (((c : Nat) : Int) != 0) = true := by simpa using hc0
      have e2 : ((c : Nat) : Int) < 16 := by omega
      clear hc0 hlt16
      go_wp2_with fail
      go_ret
      exact retB_mk (by simp) (by have h9 := HB.out; exact (by repeat (first | (with_reducible first | exact Below.refl _ _ | assumption | exact Nat.le_refl _ | refine Below.drew ?_ | refine Below.alloc ?_ ?_ _ | refine Below.setCell ?_ ?_ _ | refine le_alloc ?_ | refine le_set ?_ | refine le_drew ?_ | refine below_step (by assumption) ?_ ?_ | refine le_below (by assumption) ?_) | (dsimp only; omega))))
end Go.Proofs.YthhlcchofilimaaDoor
