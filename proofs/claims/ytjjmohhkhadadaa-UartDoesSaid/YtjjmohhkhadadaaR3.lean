/- The document's Read. -/
import Derived.Test.YtjjmohhkhadadaaR2
namespace Go.Proofs.Ytjjmohhkhadadaa
open Go.ChangeShapes Go.WideShapes Go.ChangeAt Go.RowKit
set_option linter.unusedVariables false
set_option linter.unusedSimpArgs false
theorem headD_drop (K : List Nat) (r : Nat) : (K.drop r).headD 0 = K.getD r 0 := by
  rw [List.headD_eq_head?_getD, List.head?_drop, List.getD_eq_getElem?_getD]
theorem tail_nil {U : Ur} (h : U.q.length = 0) : nextK 1 U = U := by
  have : U.q = [] := List.length_eq_zero_iff.1 h
  show ({ U with q := U.q.tail } : Ur) = U
  cases U; simp_all
theorem head_nil {U : Ur} (h : U.q.length = 0) : valK 1 U = 0 := by
  have : U.q = [] := List.length_eq_zero_iff.1 h
  show U.q.headD 0 = 0
  rw [this]; rfl
theorem readr_no (R : Nat → Nat → Prop) (N b a : Nat) (z : Int) (U : Ur) (w : World) (hU : Hid (IsR R N w b U)) (hn : Hid (thereB a z = false)) : Calls Try.prog 13 #[.pointer (some ⟨b, 0, none⟩), .int .u64 a, .int .i64 z] w (RetRA (.tuple #[.int .u64 0, .bool false]) b U R N w) := by
  have HS : Hid (Calls Try.prog 27 #[.pointer (some ⟨b, 0, none⟩)] w (RetB (decide (0 < U.q.length)) w)) := some_c R N b U w hU
  have HP : Hid (∀ w1, Below w.heap.size w w1 → Calls Try.prog 19 #[.pointer (some ⟨b, 0, none⟩)] w1 (RetB (upF U) w1)) := fun w1 h => upr_c R N b U w1 (hU.out.below h)
  by_cases hz : z = 1
  · subst hz
    have ha : ¬ a < 8 := by have := hn.out; unfold thereB at this; simp at this; omega
    have n0 : ((a : Int) == 0) = false := by simp; omega
    have n1 : ((a : Int) == 1) = false := by simp; omega
    have n2 : ((a : Int) == 2) = false := by simp; omega
    have n3 : ((a : Int) == 3) = false := by simp; omega
    have n4 : ((a : Int) == 4) = false := by simp; omega
    have n5 : ((a : Int) == 5) = false := by simp; omega
    have n6 : ((a : Int) == 6) = false := by simp; omega
    have n7 : ((a : Int) == 7) = false := by simp; omega
    clear ha
    go_enter Try.func13, Try.ntmps13
    go_wp2_with fail
    refine (HS.out).mono ?_; rintro e w1 ⟨rfl, hb⟩
    have HB := Lib.hid hb; clear hb
    go_wp2_with fail
    refine (HP.out w1 HB.out).mono ?_; rintro e w2 ⟨rfl, hb⟩
    replace HB := Lib.hid (HB.out.trans (hb.mono HB.out.size)); clear hb
    go_wp2_with fail
    go_ret2
    exact ⟨rfl, isR_below hU.out HB.out, below_chR HB.out⟩
  · have hz' : (z == 1) = false := by simpa using hz
    have hz2 : (z != 1) = true := by simpa using hz
    go_enter Try.func13, Try.ntmps13
    go_wp2_with fail
    refine (HS.out).mono ?_; rintro e w1 ⟨rfl, hb⟩
    have HB := Lib.hid hb; clear hb
    go_wp2_with fail
    refine (HP.out w1 HB.out).mono ?_; rintro e w2 ⟨rfl, hb⟩
    replace HB := Lib.hid (HB.out.trans (hb.mono HB.out.size)); clear hb
    go_wp2_with fail
    go_ret2
    exact ⟨rfl, isR_below hU.out HB.out, below_chR HB.out⟩
theorem readr_0 (R : Nat → Nat → Prop) (N b : Nat) (U : Ur) (w : World) (hU : Hid (IsR R N w b U)) (hN : Hid (N < 70368744177664)) : Calls Try.prog 13 #[.pointer (some ⟨b, 0, none⟩), .int .u64 0, .int .i64 1] w (RetRA (.tuple #[.int .u64 (valK 1 U : Nat), .bool true]) b (nextK 1 U) R N w) := by
  have HS : Hid (Calls Try.prog 27 #[.pointer (some ⟨b, 0, none⟩)] w (RetB (decide (0 < U.q.length)) w)) := some_c R N b U w hU
  have HP : Hid (∀ w1, Below w.heap.size w w1 → Calls Try.prog 19 #[.pointer (some ⟨b, 0, none⟩)] w1 (RetB (upF U) w1)) := fun w1 h => upr_c R N b U w1 (hU.out.below h)
  obtain ⟨t, ht⟩ : ∃ t, decide (0 < U.q.length) = t := ⟨_, rfl⟩
  rw [ht] at HS
  cases t
  · have h0 : U.q.length = 0 := by have := of_decide_eq_false ht; omega
    have HX : Hid (valK 1 U = 0) := head_nil h0
    have HT : Hid (nextK 1 U = U) := tail_nil h0
    clear ht h0
    go_enter Try.func13, Try.ntmps13
    go_wp2_with fail
    refine (HS.out).mono ?_; rintro e w1 ⟨rfl, hb⟩
    have HB := Lib.hid hb; clear hb
    go_wp2_with fail
    refine (HP.out w1 HB.out).mono ?_; rintro e w2 ⟨rfl, hb⟩
    replace HB := Lib.hid (HB.out.trans (hb.mono HB.out.size)); clear hb
    go_wp2_with fail
    go_ret2
    exact ⟨by rw [HX.out]; rfl, by rw [HT.out]; exact isR_below hU.out HB.out, below_chR HB.out⟩
  · have h0 : 0 < U.q.length := of_decide_eq_true ht
    obtain ⟨K, r, sa, n, c, g, o, ta, m, d, h, p, hA⟩ := hU.out
    have hl := hA.qlen
    have hrn : r < n := by omega
    obtain ⟨x, hx⟩ : ∃ x, K.getD r 0 = x := ⟨_, rfl⟩
    have x8 : x < 256 := by
      rw [← hx, List.getD_eq_getElem?_getD, List.getElem?_eq_getElem (by rw [hA.q.len]; exact hrn)]
      exact hA.k8 _ (List.getElem_mem _)
    have HX : Hid (valK 1 U = x) := by show U.q.headD 0 = x; rw [← hA.left, headD_drop, hx]
    have ex : IntKind.u64.wrap (x : Int) = x := by rw [IntKind.wrap_u64]; omega
    obtain ⟨ea, hg⟩ := hA.q.addr (by have := hA.q.le; omega)
    subst ea
    have HF : Hid (∀ w1, Below w.heap.size w w1 → w1.cell? ⟨b, 0, none⟩ = some (.slice (some ⟨g, o, none⟩) n c) ∧ w1.cell? ⟨b, 2, none⟩ = some (.int .i64 (r : Nat)) ∧ w1.cell? ⟨g, o + r, none⟩ = some (.int .u8 (x : Nat)) ∧ w1.frozen? ⟨b, 2, none⟩ = false) := fun w1 h => by
      have y := hA.below h
      exact ⟨y.c0, y.c2, by rw [← hx]; exact y.q.cell r hrn, y.fz 2 (by decide)⟩
    have HD : Hid (∀ w1, Below w.heap.size w w1 → IsR (Up R w (w1.setCell ⟨b, 2, none⟩ (.int .i64 ((r + 1 : Nat) : Nat)))) N (w1.setCell ⟨b, 2, none⟩ (.int .i64 ((r + 1 : Nat) : Nat))) b (nextK 1 U) ∧ Ch R w (w1.setCell ⟨b, 2, none⟩ (.int .i64 ((r + 1 : Nat) : Nat)))) := fun w1 h => by
      have y := hA.below h
      exact (retRA_below (v := .bool true) h ⟨rfl, (y.cut hrn).up w1, Ch.set R w1 b 2 _ (y.rb 2) (y.cells 2 (by decide))⟩).2
    have hnN := hA.q.le
    have r63 : (r : Int) < n := by omega
    have HN := Lib.hid hN.out
    have er : IntKind.i64.wrap ((r : Int) + 1) = ((r + 1 : Nat) : Int) := by rw [IntWalk.i64_in _ (by have := hN.out; have := hA.nle; omega)]; omega
    clear hA hl hx h0 ht hg hnN
    go_enter Try.func13, Try.ntmps13
    go_wp2_with fail
    refine (HS.out).mono ?_; rintro e w1 ⟨rfl, hb⟩
    have HB := Lib.hid hb; clear hb
    go_wp2_with fail
    refine (HP.out w1 HB.out).mono ?_; rintro e w2 ⟨rfl, hb⟩
    replace HB := Lib.hid (HB.out.trans (hb.mono HB.out.size)); clear hb
    obtain ⟨c0, c2, cx, f2⟩ := HF.out w2 HB.out
    go_wp2_with fail
    go_quiet (fail)
    have hb1 : Below w.heap.size w (w2.drewN nq) := below_drewN HB.out _
    obtain ⟨w3, hw3⟩ : ∃ w3, w3 = w2.drewN nq := ⟨_, rfl⟩
    rw [← hw3] at hb1 ⊢
    clear hw3 c0 c2 cx f2
    have HB3 := Lib.hid hb1; clear hb1
    obtain ⟨c0, c2, cx, f2⟩ := HF.out w3 HB3.out
    go_wp2_with fail
    go_ret2
    exact ⟨by rw [HX.out]; rfl, (HD.out w3 HB3.out).1, (HD.out w3 HB3.out).2⟩
theorem readr_1 (R : Nat → Nat → Prop) (N b : Nat) (U : Ur) (w : World) (hU : Hid (IsR R N w b U)) : Calls Try.prog 13 #[.pointer (some ⟨b, 0, none⟩), .int .u64 1, .int .i64 1] w (RetRA (.tuple #[.int .u64 (valK 2 U : Nat), .bool true]) b (nextK 2 U) R N w) := by
  have HS : Hid (Calls Try.prog 27 #[.pointer (some ⟨b, 0, none⟩)] w (RetB (decide (0 < U.q.length)) w)) := some_c R N b U w hU
  have HP : Hid (∀ w1, Below w.heap.size w w1 → Calls Try.prog 19 #[.pointer (some ⟨b, 0, none⟩)] w1 (RetB (upF U) w1)) := fun w1 h => upr_c R N b U w1 (hU.out.below h)
  obtain ⟨x, hx⟩ : ∃ x, U.want = x := ⟨_, rfl⟩
  have HC : Hid (∀ w1, Below w.heap.size w w1 → w1.cell? ⟨b, 3, none⟩ = some (.int .u64 (x : Nat))) := fun w1 h => by
    obtain ⟨K, r, sa, n, c, g, o, ta, m, d, h, p, hA⟩ := hU.out.below h
    rw [← hx]; exact hA.c3
  have HX : Hid (valK 2 U = x) := by show _ = _; rw [← hx]; rfl
  clear hx
  go_enter Try.func13, Try.ntmps13
  go_wp2_with fail
  refine (HS.out).mono ?_; rintro e w1 ⟨rfl, hb⟩
  have HB := Lib.hid hb; clear hb
  go_wp2_with fail
  refine (HP.out w1 HB.out).mono ?_; rintro e w2 ⟨rfl, hb⟩
  replace HB := Lib.hid (HB.out.trans (hb.mono HB.out.size)); clear hb
  have c0 := HC.out w2 HB.out
  go_wp2_with fail
  go_ret2
  exact ⟨by rw [HX.out]; rfl, isR_below hU.out HB.out, below_chR HB.out⟩
theorem readr_2 (R : Nat → Nat → Prop) (N b : Nat) (U : Ur) (w : World) (hU : Hid (IsR R N w b U)) : Calls Try.prog 13 #[.pointer (some ⟨b, 0, none⟩), .int .u64 2, .int .i64 1] w (RetRA (.tuple #[.int .u64 (valK 3 U : Nat), .bool true]) b (nextK 3 U) R N w) := by
  have HS : Hid (Calls Try.prog 27 #[.pointer (some ⟨b, 0, none⟩)] w (RetB (decide (0 < U.q.length)) w)) := some_c R N b U w hU
  have HP : Hid (∀ w1, Below w.heap.size w w1 → Calls Try.prog 19 #[.pointer (some ⟨b, 0, none⟩)] w1 (RetB (upF U) w1)) := fun w1 h => upr_c R N b U w1 (hU.out.below h)
  obtain ⟨t, ht⟩ : ∃ t, upF U = t := ⟨_, rfl⟩
  have HX : Hid (valK 3 U = (bif t then 4 else 1)) := by show _ = _; rw [← ht]; rfl
  rw [ht] at HP
  clear ht
  go_enter Try.func13, Try.ntmps13
  go_wp2_with fail
  refine (HS.out).mono ?_; rintro e w1 ⟨rfl, hb⟩
  have HB := Lib.hid hb; clear hb
  go_wp2_with fail
  refine (HP.out w1 HB.out).mono ?_; rintro e w2 ⟨rfl, hb⟩
  replace HB := Lib.hid (HB.out.trans (hb.mono HB.out.size)); clear hb
  cases t
  · go_wp2_with fail
    go_ret2
    exact ⟨by rw [HX.out]; rfl, isR_below hU.out HB.out, below_chR HB.out⟩
  · go_wp2_with fail
    go_ret2
    exact ⟨by rw [HX.out]; rfl, isR_below hU.out HB.out, below_chR HB.out⟩
theorem readr_3 (R : Nat → Nat → Prop) (N b : Nat) (U : Ur) (w : World) (hU : Hid (IsR R N w b U)) : Calls Try.prog 13 #[.pointer (some ⟨b, 0, none⟩), .int .u64 3, .int .i64 1] w (RetRA (.tuple #[.int .u64 (valK 4 U : Nat), .bool true]) b (nextK 4 U) R N w) := by
  have HS : Hid (Calls Try.prog 27 #[.pointer (some ⟨b, 0, none⟩)] w (RetB (decide (0 < U.q.length)) w)) := some_c R N b U w hU
  have HP : Hid (∀ w1, Below w.heap.size w w1 → Calls Try.prog 19 #[.pointer (some ⟨b, 0, none⟩)] w1 (RetB (upF U) w1)) := fun w1 h => upr_c R N b U w1 (hU.out.below h)
  go_enter Try.func13, Try.ntmps13
  go_wp2_with fail
  refine (HS.out).mono ?_; rintro e w1 ⟨rfl, hb⟩
  have HB := Lib.hid hb; clear hb
  go_wp2_with fail
  refine (HP.out w1 HB.out).mono ?_; rintro e w2 ⟨rfl, hb⟩
  replace HB := Lib.hid (HB.out.trans (hb.mono HB.out.size)); clear hb
  go_wp2_with fail
  go_ret2
  exact ⟨rfl, isR_below hU.out HB.out, below_chR HB.out⟩
theorem readr_4 (R : Nat → Nat → Prop) (N b : Nat) (U : Ur) (w : World) (hU : Hid (IsR R N w b U)) : Calls Try.prog 13 #[.pointer (some ⟨b, 0, none⟩), .int .u64 4, .int .i64 1] w (RetRA (.tuple #[.int .u64 (valK 5 U : Nat), .bool true]) b (nextK 5 U) R N w) := by
  have HS : Hid (Calls Try.prog 27 #[.pointer (some ⟨b, 0, none⟩)] w (RetB (decide (0 < U.q.length)) w)) := some_c R N b U w hU
  have HP : Hid (∀ w1, Below w.heap.size w w1 → Calls Try.prog 19 #[.pointer (some ⟨b, 0, none⟩)] w1 (RetB (upF U) w1)) := fun w1 h => upr_c R N b U w1 (hU.out.below h)
  go_enter Try.func13, Try.ntmps13
  go_wp2_with fail
  refine (HS.out).mono ?_; rintro e w1 ⟨rfl, hb⟩
  have HB := Lib.hid hb; clear hb
  go_wp2_with fail
  refine (HP.out w1 HB.out).mono ?_; rintro e w2 ⟨rfl, hb⟩
  replace HB := Lib.hid (HB.out.trans (hb.mono HB.out.size)); clear hb
  go_wp2_with fail
  go_ret2
  exact ⟨rfl, isR_below hU.out HB.out, below_chR HB.out⟩
theorem readr_5 (R : Nat → Nat → Prop) (N b : Nat) (U : Ur) (w : World) (hU : Hid (IsR R N w b U)) : Calls Try.prog 13 #[.pointer (some ⟨b, 0, none⟩), .int .u64 5, .int .i64 1] w (RetRA (.tuple #[.int .u64 (valK 6 U : Nat), .bool true]) b (nextK 6 U) R N w) := by
  have HS : Hid (Calls Try.prog 27 #[.pointer (some ⟨b, 0, none⟩)] w (RetB (decide (0 < U.q.length)) w)) := some_c R N b U w hU
  have HP : Hid (∀ w1, Below w.heap.size w w1 → Calls Try.prog 19 #[.pointer (some ⟨b, 0, none⟩)] w1 (RetB (upF U) w1)) := fun w1 h => upr_c R N b U w1 (hU.out.below h)
  obtain ⟨t, ht⟩ : ∃ t, decide (0 < U.q.length) = t := ⟨_, rfl⟩
  obtain ⟨l, hl⟩ : ∃ l, U.lost = l := ⟨_, rfl⟩
  have HX : Hid (valK 6 U = 96 + b2n t + 2 * b2n l) := by show _ = _; rw [← ht, ← hl]; rfl
  have HC : Hid (∀ w1, Below w.heap.size w w1 → w1.cell? ⟨b, 4, none⟩ = some (.int .u64 (b2n l : Nat)) ∧ w1.frozen? ⟨b, 4, none⟩ = false) := fun w1 h => by
    obtain ⟨K, r, sa, n, c, g, o, ta, m, d, h, p, hA⟩ := hU.out.below h
    rw [← hl]; exact ⟨hA.c4, hA.fz 4 (by decide)⟩
  have HD : Hid (∀ w1, Below w.heap.size w w1 → IsR (Up R w (w1.setCell ⟨b, 4, none⟩ (.int .u64 0))) N (w1.setCell ⟨b, 4, none⟩ (.int .u64 0)) b (nextK 6 U) ∧ Ch R w (w1.setCell ⟨b, 4, none⟩ (.int .u64 0))) := fun w1 h => by
    obtain ⟨K, r, sa, n, c, g, o, ta, m, d, hh, p, hA⟩ := hU.out.below h
    exact (retRA_below (v := .bool true) h ⟨rfl, (hA.lost false).up w1, Ch.set R w1 b 4 _ (hA.rb 4) (hA.cells 4 (by decide))⟩).2
  rw [ht] at HS
  clear ht hl
  go_enter Try.func13, Try.ntmps13
  go_wp2_with fail
  refine (HS.out).mono ?_; rintro e w1 ⟨rfl, hb⟩
  have HB := Lib.hid hb; clear hb
  go_wp2_with fail
  refine (HP.out w1 HB.out).mono ?_; rintro e w2 ⟨rfl, hb⟩
  replace HB := Lib.hid (HB.out.trans (hb.mono HB.out.size)); clear hb
  obtain ⟨c0, f0⟩ := HC.out w2 HB.out
  cases t <;> cases l
  · have c1 : w2.cell? ⟨b, 4, none⟩ = some (.int .u64 0) := c0
    clear c0
    go_wp2_with fail
    go_ret2
    exact ⟨by rw [HX.out]; rfl, (HD.out w2 HB.out).1, (HD.out w2 HB.out).2⟩
  · have c1 : w2.cell? ⟨b, 4, none⟩ = some (.int .u64 1) := c0
    clear c0
    go_wp2_with fail
    go_ret2
    exact ⟨by rw [HX.out]; rfl, (HD.out w2 HB.out).1, (HD.out w2 HB.out).2⟩
  · have c1 : w2.cell? ⟨b, 4, none⟩ = some (.int .u64 0) := c0
    clear c0
    go_wp2_with fail
    go_ret2
    exact ⟨by rw [HX.out]; rfl, (HD.out w2 HB.out).1, (HD.out w2 HB.out).2⟩
  · have c1 : w2.cell? ⟨b, 4, none⟩ = some (.int .u64 1) := c0
    clear c0
    go_wp2_with fail
    go_ret2
    exact ⟨by rw [HX.out]; rfl, (HD.out w2 HB.out).1, (HD.out w2 HB.out).2⟩
theorem readr_6 (R : Nat → Nat → Prop) (N b : Nat) (U : Ur) (w : World) (hU : Hid (IsR R N w b U)) : Calls Try.prog 13 #[.pointer (some ⟨b, 0, none⟩), .int .u64 6, .int .i64 1] w (RetRA (.tuple #[.int .u64 (valK 7 U : Nat), .bool true]) b (nextK 7 U) R N w) := by
  have HS : Hid (Calls Try.prog 27 #[.pointer (some ⟨b, 0, none⟩)] w (RetB (decide (0 < U.q.length)) w)) := some_c R N b U w hU
  have HP : Hid (∀ w1, Below w.heap.size w w1 → Calls Try.prog 19 #[.pointer (some ⟨b, 0, none⟩)] w1 (RetB (upF U) w1)) := fun w1 h => upr_c R N b U w1 (hU.out.below h)
  go_enter Try.func13, Try.ntmps13
  go_wp2_with fail
  refine (HS.out).mono ?_; rintro e w1 ⟨rfl, hb⟩
  have HB := Lib.hid hb; clear hb
  go_wp2_with fail
  refine (HP.out w1 HB.out).mono ?_; rintro e w2 ⟨rfl, hb⟩
  replace HB := Lib.hid (HB.out.trans (hb.mono HB.out.size)); clear hb
  go_wp2_with fail
  go_ret2
  exact ⟨rfl, isR_below hU.out HB.out, below_chR HB.out⟩
theorem readr_7 (R : Nat → Nat → Prop) (N b : Nat) (U : Ur) (w : World) (hU : Hid (IsR R N w b U)) : Calls Try.prog 13 #[.pointer (some ⟨b, 0, none⟩), .int .u64 7, .int .i64 1] w (RetRA (.tuple #[.int .u64 (valK 8 U : Nat), .bool true]) b (nextK 8 U) R N w) := by
  have HS : Hid (Calls Try.prog 27 #[.pointer (some ⟨b, 0, none⟩)] w (RetB (decide (0 < U.q.length)) w)) := some_c R N b U w hU
  have HP : Hid (∀ w1, Below w.heap.size w w1 → Calls Try.prog 19 #[.pointer (some ⟨b, 0, none⟩)] w1 (RetB (upF U) w1)) := fun w1 h => upr_c R N b U w1 (hU.out.below h)
  obtain ⟨x, hx⟩ : ∃ x, U.scr = x := ⟨_, rfl⟩
  have HC : Hid (∀ w1, Below w.heap.size w w1 → w1.cell? ⟨b, 5, none⟩ = some (.int .u64 (x : Nat))) := fun w1 h => by
    obtain ⟨K, r, sa, n, c, g, o, ta, m, d, h, p, hA⟩ := hU.out.below h
    rw [← hx]; exact hA.c5
  have HX : Hid (valK 8 U = x) := by show _ = _; rw [← hx]; rfl
  clear hx
  go_enter Try.func13, Try.ntmps13
  go_wp2_with fail
  refine (HS.out).mono ?_; rintro e w1 ⟨rfl, hb⟩
  have HB := Lib.hid hb; clear hb
  go_wp2_with fail
  refine (HP.out w1 HB.out).mono ?_; rintro e w2 ⟨rfl, hb⟩
  replace HB := Lib.hid (HB.out.trans (hb.mono HB.out.size)); clear hb
  have c0 := HC.out w2 HB.out
  go_wp2_with fail
  go_ret2
  exact ⟨by rw [HX.out]; rfl, isR_below hU.out HB.out, below_chR HB.out⟩
theorem readr_c (R : Nat → Nat → Prop) (N b a : Nat) (z : Int) (U : Ur) (w : World) (hU : Hid (IsR R N w b U)) (hN : Hid (N < 70368744177664)) : Calls Try.prog 13 #[.pointer (some ⟨b, 0, none⟩), .int .u64 a, .int .i64 z] w (RetRA (.tuple #[.int .u64 (valK (kd a z) U : Nat), .bool (okK (kd a z))]) b (nextK (kd a z) U) R N w) := by
  cases ht : thereB a z
  · rw [there_no a z ht]
    exact readr_no R N b a z U w hU ht
  · obtain ⟨rfl, h8⟩ := there_yes a z ht
    rw [kd_one a h8]
    rcases a8 h8 with rfl | rfl | rfl | rfl | rfl | rfl | rfl | rfl
    · exact readr_0 R N b U w hU hN
    · exact readr_1 R N b U w hU
    · exact readr_2 R N b U w hU
    · exact readr_3 R N b U w hU
    · exact readr_4 R N b U w hU
    · exact readr_5 R N b U w hU
    · exact readr_6 R N b U w hU
    · exact readr_7 R N b U w hU
end Go.Proofs.Ytjjmohhkhadadaa
