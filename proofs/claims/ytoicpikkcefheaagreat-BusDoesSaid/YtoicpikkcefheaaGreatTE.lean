/- Taken from other texts: what is needed of them. -/
import Derived.Test.YtoicpikkcefheaaGreatTA
import Derived.Test.YtoicpikkcefheaaGreatTB
import Derived.Test.YtoicpikkcefheaaGreatTC
import Derived.Test.YtoicpikkcefheaaGreatTD
import Derived.Deep.RegionHeld3
namespace Go.Proofs.YtoicpikkcefheaaGreat.T
set_option linter.unusedVariables false
set_option linter.unusedSimpArgs false
set_option maxRecDepth 20000
open Go.ChangeShapes Go.WideShapes Go.ChangeAt Go.RowKit
theorem headD_drop (K : List Nat) (r : Nat) : (K.drop r).headD 0 = K.getD r 0 := by
  rw [List.headD_eq_head?_getD, List.head?_drop, List.getD_eq_getElem?_getD]
theorem tail_nil {U : Ur} (h : U.q.length = 0) : nextK 1 U = U := by
  have : U.q = [] := List.length_eq_zero_iff.1 h
  show ({ U with q := U.q.tail } : Ur) = U
  cases U; simp_all
theorem head_nil {U : Ur} (h : U.q.length = 0) : valK 1 U = 0 := by
  have : U.q = [] := List.length_eq_zero_iff.1 h
  show U.q.headD 0 = 0
  rw [this]; rfl
theorem readr_no (R : Nat → Nat → Prop) (N b a : Nat) (z : Int) (U : Ur) (w : World) (hU : Hid (IsR R N w b U)) (hn : Hid (thereB a z = false)) : Calls Tryz.prog 86 #[.pointer (some ⟨b, 0, none⟩), .int .u64 a, .int .i64 z] w (RetRA (.tuple #[.int .u64 0, .bool false]) b U R N w) := by
  have HS : Hid (Calls Tryz.prog 100 #[.pointer (some ⟨b, 0, none⟩)] w (RetB (decide (0 < U.q.length)) w)) := some_c R N b U w hU
  have HP : Hid (∀ w1, Below w.heap.size w w1 → Calls Tryz.prog 81 #[.pointer (some ⟨b, 0, none⟩)] w1 (RetB (upF U) w1)) := fun w1 h => upr_c R N b U w1 (hU.out.below h)
  by_cases hz : z = 1
  · subst hz
    have ha : ¬ a < 8 := by have := hn.out; unfold thereB at this; simp at this; omega
    have n0 : ((a : Int) == 0) = false := by simp; omega
    have n1 : ((a : Int) == 1) = false := by simp; omega
    have n2 : ((a : Int) == 2) = false := by simp; omega
    have n3 : ((a : Int) == 3) = false := by simp; omega
    have n4 : ((a : Int) == 4) = false := by simp; omega
    have n5 : ((a : Int) == 5) = false := by simp; omega
    have n6 : ((a : Int) == 6) = false := by simp; omega
    have n7 : ((a : Int) == 7) = false := by simp; omega
    clear ha
    go_enter Tryz.func86, Tryz.ntmps86
    go_wp2_with fail
    refine (HS.out).mono ?_; rintro e w1 ⟨rfl, hb⟩
    have HB := Lib.hid hb; clear hb
    go_wp2_with fail
    refine (HP.out w1 HB.out).mono ?_; rintro e w2 ⟨rfl, hb⟩
    replace HB := Lib.hid (HB.out.trans (hb.mono HB.out.size)); clear hb
    go_wp2_with fail
    go_ret2
    exact ⟨rfl, isR_below hU.out HB.out, below_chR HB.out⟩
  · have hz' : (z == 1) = false := by simpa using hz
    have hz2 : (z != 1) = true := by simpa using hz
    go_enter Tryz.func86, Tryz.ntmps86
    go_wp2_with fail
    refine (HS.out).mono ?_; rintro e w1 ⟨rfl, hb⟩
    have HB := Lib.hid hb; clear hb
    go_wp2_with fail
    refine (HP.out w1 HB.out).mono ?_; rintro e w2 ⟨rfl, hb⟩
    replace HB := Lib.hid (HB.out.trans (hb.mono HB.out.size)); clear hb
    go_wp2_with fail
    go_ret2
    exact ⟨rfl, isR_below hU.out HB.out, below_chR HB.out⟩
theorem readr_0 (R : Nat → Nat → Prop) (N b : Nat) (U : Ur) (w : World) (hU : Hid (IsR R N w b U)) (hN : Hid (N < 70368744177664)) : Calls Tryz.prog 86 #[.pointer (some ⟨b, 0, none⟩), .int .u64 0, .int .i64 1] w (RetRA (.tuple #[.int .u64 (valK 1 U : Nat), .bool true]) b (nextK 1 U) R N w) := by
  have HS : Hid (Calls Tryz.prog 100 #[.pointer (some ⟨b, 0, none⟩)] w (RetB (decide (0 < U.q.length)) w)) := some_c R N b U w hU
  have HP : Hid (∀ w1, Below w.heap.size w w1 → Calls Tryz.prog 81 #[.pointer (some ⟨b, 0, none⟩)] w1 (RetB (upF U) w1)) := fun w1 h => upr_c R N b U w1 (hU.out.below h)
  obtain ⟨t, ht⟩ : ∃ t, decide (0 < U.q.length) = t := ⟨_, rfl⟩
  rw [ht] at HS
  cases t
  · have h0 : U.q.length = 0 := by have := of_decide_eq_false ht; omega
    have HX : Hid (valK 1 U = 0) := head_nil h0
    have HT : Hid (nextK 1 U = U) := tail_nil h0
    clear ht h0
    go_enter Tryz.func86, Tryz.ntmps86
    go_wp2_with fail
    refine (HS.out).mono ?_; rintro e w1 ⟨rfl, hb⟩
    have HB := Lib.hid hb; clear hb
    go_wp2_with fail
    refine (HP.out w1 HB.out).mono ?_; rintro e w2 ⟨rfl, hb⟩
    replace HB := Lib.hid (HB.out.trans (hb.mono HB.out.size)); clear hb
    go_wp2_with fail
    go_ret2
    exact ⟨by rw [HX.out]; rfl, by rw [HT.out]; exact isR_below hU.out HB.out, below_chR HB.out⟩
  · have h0 : 0 < U.q.length := of_decide_eq_true ht
    obtain ⟨K, r, sa, n, c, g, o, ta, m, d, h, p, hA⟩ := hU.out
    have hl := hA.qlen
    have hrn : r < n := by omega
    obtain ⟨x, hx⟩ : ∃ x, K.getD r 0 = x := ⟨_, rfl⟩
    have x8 : x < 256 := by
      rw [← hx, List.getD_eq_getElem?_getD, List.getElem?_eq_getElem (by rw [hA.q.len]; exact hrn)]
      exact hA.k8 _ (List.getElem_mem _)
    have HX : Hid (valK 1 U = x) := by show U.q.headD 0 = x; rw [← hA.left, headD_drop, hx]
    have ex : IntKind.u64.wrap (x : Int) = x := by rw [IntKind.wrap_u64]; omega
    obtain ⟨ea, hg⟩ := hA.q.addr (by have := hA.q.le; omega)
    subst ea
    have HF : Hid (∀ w1, Below w.heap.size w w1 → w1.cell? ⟨b, 0, none⟩ = some (.slice (some ⟨g, o, none⟩) n c) ∧ w1.cell? ⟨b, 2, none⟩ = some (.int .i64 (r : Nat)) ∧ w1.cell? ⟨g, o + r, none⟩ = some (.int .u8 (x : Nat)) ∧ w1.frozen? ⟨b, 2, none⟩ = false) := fun w1 h => by
      have y := hA.below h
      exact ⟨y.c0, y.c2, by rw [← hx]; exact y.q.cell r hrn, y.fz 2 (by decide)⟩
    have HD : Hid (∀ w1, Below w.heap.size w w1 → IsR (Up R w (w1.setCell ⟨b, 2, none⟩ (.int .i64 ((r + 1 : Nat) : Nat)))) N (w1.setCell ⟨b, 2, none⟩ (.int .i64 ((r + 1 : Nat) : Nat))) b (nextK 1 U) ∧ Ch R w (w1.setCell ⟨b, 2, none⟩ (.int .i64 ((r + 1 : Nat) : Nat)))) := fun w1 h => by
      have y := hA.below h
      exact (retRA_below (v := .bool true) h ⟨rfl, (y.cut hrn).up w1, Ch.set R w1 b 2 _ (y.rb 2) (y.cells 2 (by decide))⟩).2
    have hnN := hA.q.le
    have r63 : (r : Int) < n := by omega
    have HN := Lib.hid hN.out
    have er : IntKind.i64.wrap ((r : Int) + 1) = ((r + 1 : Nat) : Int) := by rw [IntWalk.i64_in _ (by have := hN.out; have := hA.nle; omega)]; omega
    clear hA hl hx h0 ht hg hnN
    go_enter Tryz.func86, Tryz.ntmps86
    go_wp2_with fail
    refine (HS.out).mono ?_; rintro e w1 ⟨rfl, hb⟩
    have HB := Lib.hid hb; clear hb
    go_wp2_with fail
    refine (HP.out w1 HB.out).mono ?_; rintro e w2 ⟨rfl, hb⟩
    replace HB := Lib.hid (HB.out.trans (hb.mono HB.out.size)); clear hb
    obtain ⟨c0, c2, cx, f2⟩ := HF.out w2 HB.out
    go_wp2_with fail
    go_quiet (fail)
    have hb1 : Below w.heap.size w (w2.drewN nq) := below_drewN HB.out _
    obtain ⟨w3, hw3⟩ : ∃ w3, w3 = w2.drewN nq := ⟨_, rfl⟩
    rw [← hw3] at hb1 ⊢
    clear hw3 c0 c2 cx f2
    have HB3 := Lib.hid hb1; clear hb1
    obtain ⟨c0, c2, cx, f2⟩ := HF.out w3 HB3.out
    go_wp2_with fail
    go_ret2
    exact ⟨by rw [HX.out]; rfl, (HD.out w3 HB3.out).1, (HD.out w3 HB3.out).2⟩
theorem readr_1 (R : Nat → Nat → Prop) (N b : Nat) (U : Ur) (w : World) (hU : Hid (IsR R N w b U)) : Calls Tryz.prog 86 #[.pointer (some ⟨b, 0, none⟩), .int .u64 1, .int .i64 1] w (RetRA (.tuple #[.int .u64 (valK 2 U : Nat), .bool true]) b (nextK 2 U) R N w) := by
  have HS : Hid (Calls Tryz.prog 100 #[.pointer (some ⟨b, 0, none⟩)] w (RetB (decide (0 < U.q.length)) w)) := some_c R N b U w hU
  have HP : Hid (∀ w1, Below w.heap.size w w1 → Calls Tryz.prog 81 #[.pointer (some ⟨b, 0, none⟩)] w1 (RetB (upF U) w1)) := fun w1 h => upr_c R N b U w1 (hU.out.below h)
  obtain ⟨x, hx⟩ : ∃ x, U.want = x := ⟨_, rfl⟩
  have HC : Hid (∀ w1, Below w.heap.size w w1 → w1.cell? ⟨b, 3, none⟩ = some (.int .u64 (x : Nat))) := fun w1 h => by
    obtain ⟨K, r, sa, n, c, g, o, ta, m, d, h, p, hA⟩ := hU.out.below h
    rw [← hx]; exact hA.c3
  have HX : Hid (valK 2 U = x) := by show _ = _; rw [← hx]; rfl
  clear hx
  go_enter Tryz.func86, Tryz.ntmps86
  go_wp2_with fail
  refine (HS.out).mono ?_; rintro e w1 ⟨rfl, hb⟩
  have HB := Lib.hid hb; clear hb
  go_wp2_with fail
  refine (HP.out w1 HB.out).mono ?_; rintro e w2 ⟨rfl, hb⟩
  replace HB := Lib.hid (HB.out.trans (hb.mono HB.out.size)); clear hb
  have c0 := HC.out w2 HB.out
  go_wp2_with fail
  go_ret2
  exact ⟨by rw [HX.out]; rfl, isR_below hU.out HB.out, below_chR HB.out⟩
theorem readr_2 (R : Nat → Nat → Prop) (N b : Nat) (U : Ur) (w : World) (hU : Hid (IsR R N w b U)) : Calls Tryz.prog 86 #[.pointer (some ⟨b, 0, none⟩), .int .u64 2, .int .i64 1] w (RetRA (.tuple #[.int .u64 (valK 3 U : Nat), .bool true]) b (nextK 3 U) R N w) := by
  have HS : Hid (Calls Tryz.prog 100 #[.pointer (some ⟨b, 0, none⟩)] w (RetB (decide (0 < U.q.length)) w)) := some_c R N b U w hU
  have HP : Hid (∀ w1, Below w.heap.size w w1 → Calls Tryz.prog 81 #[.pointer (some ⟨b, 0, none⟩)] w1 (RetB (upF U) w1)) := fun w1 h => upr_c R N b U w1 (hU.out.below h)
  obtain ⟨t, ht⟩ : ∃ t, upF U = t := ⟨_, rfl⟩
  have HX : Hid (valK 3 U = (bif t then 4 else 1)) := by show _ = _; rw [← ht]; rfl
  rw [ht] at HP
  clear ht
  go_enter Tryz.func86, Tryz.ntmps86
  go_wp2_with fail
  refine (HS.out).mono ?_; rintro e w1 ⟨rfl, hb⟩
  have HB := Lib.hid hb; clear hb
  go_wp2_with fail
  refine (HP.out w1 HB.out).mono ?_; rintro e w2 ⟨rfl, hb⟩
  replace HB := Lib.hid (HB.out.trans (hb.mono HB.out.size)); clear hb
  cases t
  · go_wp2_with fail
    go_ret2
    exact ⟨by rw [HX.out]; rfl, isR_below hU.out HB.out, below_chR HB.out⟩
  · go_wp2_with fail
    go_ret2
    exact ⟨by rw [HX.out]; rfl, isR_below hU.out HB.out, below_chR HB.out⟩
theorem readr_3 (R : Nat → Nat → Prop) (N b : Nat) (U : Ur) (w : World) (hU : Hid (IsR R N w b U)) : Calls Tryz.prog 86 #[.pointer (some ⟨b, 0, none⟩), .int .u64 3, .int .i64 1] w (RetRA (.tuple #[.int .u64 (valK 4 U : Nat), .bool true]) b (nextK 4 U) R N w) := by
  have HS : Hid (Calls Tryz.prog 100 #[.pointer (some ⟨b, 0, none⟩)] w (RetB (decide (0 < U.q.length)) w)) := some_c R N b U w hU
  have HP : Hid (∀ w1, Below w.heap.size w w1 → Calls Tryz.prog 81 #[.pointer (some ⟨b, 0, none⟩)] w1 (RetB (upF U) w1)) := fun w1 h => upr_c R N b U w1 (hU.out.below h)
  go_enter Tryz.func86, Tryz.ntmps86
  go_wp2_with fail
  refine (HS.out).mono ?_; rintro e w1 ⟨rfl, hb⟩
  have HB := Lib.hid hb; clear hb
  go_wp2_with fail
  refine (HP.out w1 HB.out).mono ?_; rintro e w2 ⟨rfl, hb⟩
  replace HB := Lib.hid (HB.out.trans (hb.mono HB.out.size)); clear hb
  go_wp2_with fail
  go_ret2
  exact ⟨rfl, isR_below hU.out HB.out, below_chR HB.out⟩
theorem readr_4 (R : Nat → Nat → Prop) (N b : Nat) (U : Ur) (w : World) (hU : Hid (IsR R N w b U)) : Calls Tryz.prog 86 #[.pointer (some ⟨b, 0, none⟩), .int .u64 4, .int .i64 1] w (RetRA (.tuple #[.int .u64 (valK 5 U : Nat), .bool true]) b (nextK 5 U) R N w) := by
  have HS : Hid (Calls Tryz.prog 100 #[.pointer (some ⟨b, 0, none⟩)] w (RetB (decide (0 < U.q.length)) w)) := some_c R N b U w hU
  have HP : Hid (∀ w1, Below w.heap.size w w1 → Calls Tryz.prog 81 #[.pointer (some ⟨b, 0, none⟩)] w1 (RetB (upF U) w1)) := fun w1 h => upr_c R N b U w1 (hU.out.below h)
  go_enter Tryz.func86, Tryz.ntmps86
  go_wp2_with fail
  refine (HS.out).mono ?_; rintro e w1 ⟨rfl, hb⟩
  have HB := Lib.hid hb; clear hb
  go_wp2_with fail
  refine (HP.out w1 HB.out).mono ?_; rintro e w2 ⟨rfl, hb⟩
  replace HB := Lib.hid (HB.out.trans (hb.mono HB.out.size)); clear hb
  go_wp2_with fail
  go_ret2
  exact ⟨rfl, isR_below hU.out HB.out, below_chR HB.out⟩
theorem readr_5 (R : Nat → Nat → Prop) (N b : Nat) (U : Ur) (w : World) (hU : Hid (IsR R N w b U)) : Calls Tryz.prog 86 #[.pointer (some ⟨b, 0, none⟩), .int .u64 5, .int .i64 1] w (RetRA (.tuple #[.int .u64 (valK 6 U : Nat), .bool true]) b (nextK 6 U) R N w) := by
  have HS : Hid (Calls Tryz.prog 100 #[.pointer (some ⟨b, 0, none⟩)] w (RetB (decide (0 < U.q.length)) w)) := some_c R N b U w hU
  have HP : Hid (∀ w1, Below w.heap.size w w1 → Calls Tryz.prog 81 #[.pointer (some ⟨b, 0, none⟩)] w1 (RetB (upF U) w1)) := fun w1 h => upr_c R N b U w1 (hU.out.below h)
  obtain ⟨t, ht⟩ : ∃ t, decide (0 < U.q.length) = t := ⟨_, rfl⟩
  obtain ⟨l, hl⟩ : ∃ l, U.lost = l := ⟨_, rfl⟩
  have HX : Hid (valK 6 U = 96 + b2n t + 2 * b2n l) := by show _ = _; rw [← ht, ← hl]; rfl
  have HC : Hid (∀ w1, Below w.heap.size w w1 → w1.cell? ⟨b, 4, none⟩ = some (.int .u64 (b2n l : Nat)) ∧ w1.frozen? ⟨b, 4, none⟩ = false) := fun w1 h => by
    obtain ⟨K, r, sa, n, c, g, o, ta, m, d, h, p, hA⟩ := hU.out.below h
    rw [← hl]; exact ⟨hA.c4, hA.fz 4 (by decide)⟩
  have HD : Hid (∀ w1, Below w.heap.size w w1 → IsR (Up R w (w1.setCell ⟨b, 4, none⟩ (.int .u64 0))) N (w1.setCell ⟨b, 4, none⟩ (.int .u64 0)) b (nextK 6 U) ∧ Ch R w (w1.setCell ⟨b, 4, none⟩ (.int .u64 0))) := fun w1 h => by
    obtain ⟨K, r, sa, n, c, g, o, ta, m, d, hh, p, hA⟩ := hU.out.below h
    exact (retRA_below (v := .bool true) h ⟨rfl, (hA.lost false).up w1, Ch.set R w1 b 4 _ (hA.rb 4) (hA.cells 4 (by decide))⟩).2
  rw [ht] at HS
  clear ht hl
  go_enter Tryz.func86, Tryz.ntmps86
  go_wp2_with fail
  refine (HS.out).mono ?_; rintro e w1 ⟨rfl, hb⟩
  have HB := Lib.hid hb; clear hb
  go_wp2_with fail
  refine (HP.out w1 HB.out).mono ?_; rintro e w2 ⟨rfl, hb⟩
  replace HB := Lib.hid (HB.out.trans (hb.mono HB.out.size)); clear hb
  obtain ⟨c0, f0⟩ := HC.out w2 HB.out
  cases t <;> cases l
  · have c1 : w2.cell? ⟨b, 4, none⟩ = some (.int .u64 0) := c0
    clear c0
    go_wp2_with fail
    go_ret2
    exact ⟨by rw [HX.out]; rfl, (HD.out w2 HB.out).1, (HD.out w2 HB.out).2⟩
  · have c1 : w2.cell? ⟨b, 4, none⟩ = some (.int .u64 1) := c0
    clear c0
    go_wp2_with fail
    go_ret2
    exact ⟨by rw [HX.out]; rfl, (HD.out w2 HB.out).1, (HD.out w2 HB.out).2⟩
  · have c1 : w2.cell? ⟨b, 4, none⟩ = some (.int .u64 0) := c0
    clear c0
    go_wp2_with fail
    go_ret2
    exact ⟨by rw [HX.out]; rfl, (HD.out w2 HB.out).1, (HD.out w2 HB.out).2⟩
  · have c1 : w2.cell? ⟨b, 4, none⟩ = some (.int .u64 1) := c0
    clear c0
    go_wp2_with fail
    go_ret2
    exact ⟨by rw [HX.out]; rfl, (HD.out w2 HB.out).1, (HD.out w2 HB.out).2⟩
theorem readr_6 (R : Nat → Nat → Prop) (N b : Nat) (U : Ur) (w : World) (hU : Hid (IsR R N w b U)) : Calls Tryz.prog 86 #[.pointer (some ⟨b, 0, none⟩), .int .u64 6, .int .i64 1] w (RetRA (.tuple #[.int .u64 (valK 7 U : Nat), .bool true]) b (nextK 7 U) R N w) := by
  have HS : Hid (Calls Tryz.prog 100 #[.pointer (some ⟨b, 0, none⟩)] w (RetB (decide (0 < U.q.length)) w)) := some_c R N b U w hU
  have HP : Hid (∀ w1, Below w.heap.size w w1 → Calls Tryz.prog 81 #[.pointer (some ⟨b, 0, none⟩)] w1 (RetB (upF U) w1)) := fun w1 h => upr_c R N b U w1 (hU.out.below h)
  go_enter Tryz.func86, Tryz.ntmps86
  go_wp2_with fail
  refine (HS.out).mono ?_; rintro e w1 ⟨rfl, hb⟩
  have HB := Lib.hid hb; clear hb
  go_wp2_with fail
  refine (HP.out w1 HB.out).mono ?_; rintro e w2 ⟨rfl, hb⟩
  replace HB := Lib.hid (HB.out.trans (hb.mono HB.out.size)); clear hb
  go_wp2_with fail
  go_ret2
  exact ⟨rfl, isR_below hU.out HB.out, below_chR HB.out⟩
theorem readr_7 (R : Nat → Nat → Prop) (N b : Nat) (U : Ur) (w : World) (hU : Hid (IsR R N w b U)) : Calls Tryz.prog 86 #[.pointer (some ⟨b, 0, none⟩), .int .u64 7, .int .i64 1] w (RetRA (.tuple #[.int .u64 (valK 8 U : Nat), .bool true]) b (nextK 8 U) R N w) := by
  have HS : Hid (Calls Tryz.prog 100 #[.pointer (some ⟨b, 0, none⟩)] w (RetB (decide (0 < U.q.length)) w)) := some_c R N b U w hU
  have HP : Hid (∀ w1, Below w.heap.size w w1 → Calls Tryz.prog 81 #[.pointer (some ⟨b, 0, none⟩)] w1 (RetB (upF U) w1)) := fun w1 h => upr_c R N b U w1 (hU.out.below h)
  obtain ⟨x, hx⟩ : ∃ x, U.scr = x := ⟨_, rfl⟩
  have HC : Hid (∀ w1, Below w.heap.size w w1 → w1.cell? ⟨b, 5, none⟩ = some (.int .u64 (x : Nat))) := fun w1 h => by
    obtain ⟨K, r, sa, n, c, g, o, ta, m, d, h, p, hA⟩ := hU.out.below h
    rw [← hx]; exact hA.c5
  have HX : Hid (valK 8 U = x) := by show _ = _; rw [← hx]; rfl
  clear hx
  go_enter Tryz.func86, Tryz.ntmps86
  go_wp2_with fail
  refine (HS.out).mono ?_; rintro e w1 ⟨rfl, hb⟩
  have HB := Lib.hid hb; clear hb
  go_wp2_with fail
  refine (HP.out w1 HB.out).mono ?_; rintro e w2 ⟨rfl, hb⟩
  replace HB := Lib.hid (HB.out.trans (hb.mono HB.out.size)); clear hb
  have c0 := HC.out w2 HB.out
  go_wp2_with fail
  go_ret2
  exact ⟨by rw [HX.out]; rfl, isR_below hU.out HB.out, below_chR HB.out⟩
theorem readr_c (R : Nat → Nat → Prop) (N b a : Nat) (z : Int) (U : Ur) (w : World) (hU : Hid (IsR R N w b U)) (hN : Hid (N < 70368744177664)) : Calls Tryz.prog 86 #[.pointer (some ⟨b, 0, none⟩), .int .u64 a, .int .i64 z] w (RetRA (.tuple #[.int .u64 (valK (kd a z) U : Nat), .bool (okK (kd a z))]) b (nextK (kd a z) U) R N w) := by
  cases ht : thereB a z
  · rw [there_no a z ht]
    exact readr_no R N b a z U w hU ht
  · obtain ⟨rfl, h8⟩ := there_yes a z ht
    rw [kd_one a h8]
    rcases a8 h8 with rfl | rfl | rfl | rfl | rfl | rfl | rfl | rfl
    · exact readr_0 R N b U w hU hN
    · exact readr_1 R N b U w hU
    · exact readr_2 R N b U w hU
    · exact readr_3 R N b U w hU
    · exact readr_4 R N b U w hU
    · exact readr_5 R N b U w hU
    · exact readr_6 R N b U w hU
    · exact readr_7 R N b U w hU
end Go.Proofs.YtoicpikkcefheaaGreat.T
namespace Go.Proofs.YtoicpikkcefheaaGreat.T
set_option linter.unusedVariables false
set_option linter.unusedSimpArgs false
set_option maxRecDepth 20000
open Go.ChangeShapes Go.WideShapes Go.ChangeAt Go.RowKit
theorem le_alloc {n : Nat} {w : World} {o : Obj} (h : n ≤ w.heap.size) : n ≤ (w.alloc o).heap.size := by rw [sz_alloc]; omega
theorem le_set {n : Nat} {w : World} {p : Addr} {u : Value} (h : n ≤ w.heap.size) : n ≤ (w.setCell p u).heap.size := by rw [sz_set]; exact h
theorem run_all {w : World} {a : Option Addr} {n c g o : Nat} {L : List Nat} (h : SlA w a n c g o L) (sa : Option Addr) (ty : TypeId) (hn : n < 70368744177664) :
    ∃ a' c' g' w', (Builtin.append_ #[22, 22] ty #[.slice sa 0 0, .slice a n c]).run Tryz.prog w = .ok (.slice a' n c') w' ∧ SlA w' a' n c' g' 0 L ∧ Below w.heap.size w w' ∧ (0 < c' → w.heap.size ≤ g') := by
  obtain ⟨i, hi, h1, h2, h3⟩ := i8'
  have hsrc := h.src
  by_cases h0 : n = 0
  · subst h0
    have hL : L = [] := List.length_eq_zero_iff.1 h.len
    subst hL
    exact ⟨sa, 0, 0, w, run_append_nothing (P := Tryz.prog) w 22 22 ty 5 i Tryz.underlying22 hi sa 0 0 (Nat.le_refl _) _ (by rw [h1]; exact hsrc), slA_nil _ _ _ _, Below.refl _ _, fun h => absurd h (Nat.lt_irrefl _)⟩
  · have hold : (Builtin.firstCells i.size 0 (.slice sa 0 0)).run Tryz.prog w.drew = .ok (#[] : Array Value) w.drew := by
      rw [h1]
      exact (slA_nil w.drew sa 0 0).first
    have hg := run_append_grow_src (P := Tryz.prog) w 22 22 ty 5 i (.int .u8 0) Tryz.underlying22 hi h3 sa 0 0 [] hold _ n _ (by rw [h1]; exact hsrc) (by omega) (by omega) (growslice_fits (by omega) (by rw [h2]; omega))
    rw [Nat.zero_add] at hg
    have hge := grownCap_ge w n 0 5
    have hl := h.len
    have hnew := slA_new w.drew L (grownCap w n 0 5 - n) (grownCap w n 0 5) 5 (by rw [hl]; omega)
    rw [hl] at hnew
    exact ⟨_, _, _, _, hg, hnew, Below.alloc (below_drewN (Below.refl _ _) 1) (Nat.le_refl _) _, fun _ => Nat.le_refl _⟩
/-- A copy of a slice of its own, as one step of a region that draws. -/
theorem step_all {w : World} {a : Option Addr} {n c g o : Nat} {L : List Nat} {ops : Array Oper} {op : Oper} {A : Act} {K : Act → World → Prop} {Q : Exit → Act → World → Prop} {E : Prop} (hgd : op.guard = none) (s x : Operand)
    (ho : op.op = .call { callee := .builtin .append, args := #[s, x], argTypes := #[22, 22] })
    (h : SlA w a n c g o L) (sa : Option Addr) (hs : A.eval s = .slice sa 0 0) (hx : A.eval x = .slice a n c) (hn : n < 70368744177664)
    (k : ∀ a' c' g' w', SlA w' a' n c' g' 0 L → Below w.heap.size w w' → (0 < c' → w.heap.size ≤ g') → K (A.put op.dst (.slice a' n c')) w') :
    if Region.wanted op (yielded ops A.tmps) = true then Oper.wp Tryz.prog op A w K Q else E := by
  have hw : Region.wanted op (yielded ops A.tmps) = true := by simp [Region.wanted, hgd]
  rw [if_pos hw]
  obtain ⟨a', c', g', w', hrun, h1, h2, h3⟩ := run_all h sa op.type hn
  unfold Oper.wp
  simp [execOp, ho, resolve, invoke, builtin, hs, hx, hrun, Result.andThen]
  exact k a' c' g' w' h1 h2 h3
def RetRC (N : Nat) (U : Ur) (w : World) (e : Ending) (w' : World) : Prop := ∃ b' R', e = .returned (.pointer (some ⟨b', 0, none⟩)) ∧ IsR R' N w' b' U ∧ (∀ k j, R' k j → w.heap.size ≤ k) ∧ Below w.heap.size w w'
section
variable {R : Nat → Nat → Prop} {N : Nat} {w w' : World} {b : Nat} {U : Ur} {K : List Nat} {r : Nat} {sa : Option Addr} {n c g o : Nat} {ta : Option Addr} {m d h p : Nat}
theorem Af.copied (x : Af R N w b U K r sa n c g o ta m d h p) {a1 a2 : Option Addr} {b' cc gg dd hh : Nat} (hb : Below w.heap.size w w') (h1 : SlA w' a1 n cc gg 0 K) (h2 : SlA w' a2 m dd hh 0 U.sent) (hs : w.heap.size ≤ b' ∧ b' < w'.heap.size) (hg : 0 < cc → w.heap.size ≤ gg ∧ gg ≠ b') (hh2 : 0 < dd → w.heap.size ≤ hh ∧ hh ≠ b') (hgh : 0 < cc → 0 < dd → gg ≠ hh)
    (c0 : w'.cell? ⟨b', 0, none⟩ = some (.slice a1 n cc)) (c1 : w'.cell? ⟨b', 1, none⟩ = some (.slice a2 m dd)) (c2 : w'.cell? ⟨b', 2, none⟩ = some (.int .i64 (r : Nat))) (c3 : w'.cell? ⟨b', 3, none⟩ = some (.int .u64 (U.want : Nat))) (c4 : w'.cell? ⟨b', 4, none⟩ = some (.int .u64 (b2n U.lost : Nat))) (c5 : w'.cell? ⟨b', 5, none⟩ = some (.int .u64 (U.scr : Nat)))
    (fz : ∀ j, j < 6 → w'.frozen? ⟨b', j, none⟩ = false) : RetRC N U w (.returned (.pointer (some ⟨b', 0, none⟩))) w' := by
  refine ⟨b', fun k _ => w.heap.size ≤ k ∧ k < w'.heap.size, rfl, ⟨K, r, a1, n, cc, gg, 0, a2, m, dd, hh, 0, ?_⟩, fun k j hk => hk.1, hb⟩
  exact ⟨hs.2, c0, c1, c2, c3, c4, c5, fz, h1, h2, x.ok, x.left, x.rle, x.nle, x.k8, fun _ => hs, fun i hi => ⟨(hg (by omega)).1, (h1.addr (by omega)).2⟩, fun i hi => ⟨(hh2 (by omega)).1, (h2.addr (by omega)).2⟩, fun k j hk => hk.2, fun h0 => (hg h0).2, fun h0 => (hh2 h0).2, hgh⟩
end
set_option maxRecDepth 100000 in
set_option maxHeartbeats 4000000 in
theorem copyr_c (R : Nat → Nat → Prop) (N b : Nat) (U : Ur) (w : World) (hU : Hid (IsR R N w b U)) (hN : Hid (N < 70368744177664)) (hn : Hid (U.sent.length < 70368744177664)) : Calls Tryz.prog 52 #[.pointer (some ⟨b, 0, none⟩)] w (RetRC N U w) := by
  obtain ⟨K, r, sa, n, c, g, o, ta, m, d, h, p, hA⟩ := hU.out
  have n46 : n < 70368744177664 := Nat.lt_of_le_of_lt hA.nle hN.out
  have m46 : m < 70368744177664 := by rw [← hA.s.len]; exact hn.out
  have HA := Lib.hid hA
  clear hA
  go_enter Tryz.func52, Tryz.ntmps52
  go_wp2_with fail
  go_region_held3 (fun w' => w'.cell? ⟨b, 0, none⟩ = some (.slice sa n c) ∧ w'.cell? ⟨b, 1, none⟩ = some (.slice ta m d) ∧ w'.cell? ⟨b, 2, none⟩ = some (.int .i64 (r : Nat)) ∧ w'.cell? ⟨b, 3, none⟩ = some (.int .u64 (U.want : Nat)) ∧ w'.cell? ⟨b, 4, none⟩ = some (.int .u64 (b2n U.lost : Nat)) ∧ w'.cell? ⟨b, 5, none⟩ = some (.int .u64 (U.scr : Nat))) (exact HA.out.six (by repeat (first | (with_reducible first | exact Below.refl _ _ | assumption | exact Nat.le_refl _ | refine Below.drew ?_ | refine Below.alloc ?_ ?_ _ | refine Below.setCell ?_ ?_ _ | refine le_alloc ?_ | refine le_set ?_ | refine le_drew ?_ | refine below_step (by assumption) ?_ ?_ | refine le_below (by assumption) ?_) | (dsimp only; omega)))) (first
    | (refine step_all rfl (.tmp 3) (.tmp 7) rfl (HA.out.q.below (by repeat (first | (with_reducible first | exact Below.refl _ _ | assumption | exact Nat.le_refl _ | refine Below.drew ?_ | refine Below.alloc ?_ ?_ _ | refine Below.setCell ?_ ?_ _ | refine le_alloc ?_ | refine le_set ?_ | refine le_drew ?_ | refine below_step (by assumption) ?_ ?_ | refine le_below (by assumption) ?_) | (dsimp only; omega)))) _ rfl rfl n46 ?_; intro a1 cc gg wc q1 hb1 q3; have HC1 := Lib.hid q1; have HC3 := Lib.hid q3; clear q1 q3)
    | (refine step_all rfl (.tmp 9) (.tmp 13) rfl (HA.out.s.below (by repeat (first | (with_reducible first | exact Below.refl _ _ | assumption | exact Nat.le_refl _ | refine Below.drew ?_ | refine Below.alloc ?_ ?_ _ | refine Below.setCell ?_ ?_ _ | refine le_alloc ?_ | refine le_set ?_ | refine le_drew ?_ | refine below_step (by assumption) ?_ ?_ | refine le_below (by assumption) ?_) | (dsimp only; omega)))) _ rfl rfl m46 ?_; intro a2 dd hh ws q1 hb2 q3; have HS1 := Lib.hid q1; have HS3 := Lib.hid q3; clear q1 q3))
  all_goals
    go_wp2_with fail
    go_ret
    have z1 := hb1.size
    have z2 := hb2.size
    simp only [sz_alloc, sz_drew] at z1 z2
    refine HA.out.copied (b' := ws.heap.size) (by repeat (first | (with_reducible first | exact Below.refl _ _ | assumption | exact Nat.le_refl _ | refine Below.drew ?_ | refine Below.alloc ?_ ?_ _ | refine Below.setCell ?_ ?_ _ | refine le_alloc ?_ | refine le_set ?_ | refine le_drew ?_ | refine below_step (by assumption) ?_ ?_ | refine le_below (by assumption) ?_) | (dsimp only; omega))) (HC1.out.below (by repeat (first | (with_reducible first | exact Below.refl _ _ | assumption | exact Nat.le_refl _ | refine Below.drew ?_ | refine Below.alloc ?_ ?_ _ | refine Below.setCell ?_ ?_ _ | refine le_alloc ?_ | refine le_set ?_ | refine le_drew ?_ | refine below_step (by assumption) ?_ ?_ | refine le_below (by assumption) ?_) | (dsimp only; omega)))) (HS1.out.below (by repeat (first | (with_reducible first | exact Below.refl _ _ | assumption | exact Nat.le_refl _ | refine Below.drew ?_ | refine Below.alloc ?_ ?_ _ | refine Below.setCell ?_ ?_ _ | refine le_alloc ?_ | refine le_set ?_ | refine le_drew ?_ | refine below_step (by assumption) ?_ ?_ | refine le_below (by assumption) ?_) | (dsimp only; omega)))) ⟨by omega, by rw [sz_alloc]; omega⟩ (fun h0 => ?_) (fun h0 => ?_) (fun h0 h1 => ?_) (by rw [World.cell?_alloc_at _ _ _ _ rfl]; rfl) (by rw [World.cell?_alloc_at _ _ _ _ rfl]; rfl) (by rw [World.cell?_alloc_at _ _ _ _ rfl]; rfl) (by rw [World.cell?_alloc_at _ _ _ _ rfl]; rfl) (by rw [World.cell?_alloc_at _ _ _ _ rfl]; rfl) (by rw [World.cell?_alloc_at _ _ _ _ rfl]; rfl) (fun j hj => by rw [World.frozen?_alloc_at _ _ _ _ rfl])
    · have := HC3.out h0; have := (HC1.out.addr h0).2; simp only [sz_alloc, sz_drew] at *; omega
    · have := HS3.out h0; have := (HS1.out.addr h0).2; simp only [sz_alloc, sz_drew] at *; omega
    · have := HC3.out h0; have := (HC1.out.addr h0).2; have := HS3.out h1; have := (HS1.out.addr h1).2; simp only [sz_alloc, sz_drew] at *; omega
end Go.Proofs.YtoicpikkcefheaaGreat.T
