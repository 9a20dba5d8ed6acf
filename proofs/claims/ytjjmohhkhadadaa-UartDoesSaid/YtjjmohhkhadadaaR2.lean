/- The document's some, Up, Give, Sent, Read, Write. -/
import Derived.Test.YtjjmohhkhadadaaR1
import Derived.Test.YtjjmohhkhadadaaB4
namespace Go.Proofs.Ytjjmohhkhadadaa
open Go.ChangeShapes Go.WideShapes Go.ChangeAt Go.RowKit
set_option linter.unusedVariables false
set_option linter.unusedSimpArgs false
theorem below_chR {R : Nat → Nat → Prop} {w w' : World} (hb : Below w.heap.size w w') : Ch R w w' := Ch.of_below R hb
theorem isR_below {R : Nat → Nat → Prop} {N : Nat} {w w' : World} {b : Nat} {U : Ur} (h : IsR R N w b U) (hb : Below w.heap.size w w') : IsR (Up R w w') N w' b U := by
  obtain ⟨K, r, sa, n, c, g, o, ta, m, d, h, p, x⟩ := h
  exact (x.below hb).up w
/-- What a step behind a step that only read leaves. -/
theorem retRA_below {v : Value} {b : Nat} {U : Ur} {R : Nat → Nat → Prop} {N : Nat} {w w1 w' : World} {e : Ending} (hb : Below w.heap.size w w1) (h : RetRA v b U R N w1 e w') : RetRA v b U R N w e w' := by
  obtain ⟨h1, ⟨K, r, sa, n, c, g, o, ta, m, d, h, p, x⟩, h3⟩ := h
  refine ⟨h1, ⟨K, r, sa, n, c, g, o, ta, m, d, h, p, x.mono (Nat.le_refl _) (fun k j hk => hk.imp id (fun q => ⟨Nat.le_trans hb.size q.1, q.2⟩)) (fun k j hk => hk.elim (fun q => x.rlt k j (.inl q)) (fun q => q.2))⟩, (Ch.of_below R hb).trans h3 (fun _ _ q => .inl q)⟩
theorem some_c (R : Nat → Nat → Prop) (N b : Nat) (U : Ur) (w : World) (hU : Hid (IsR R N w b U)) : Calls Try.prog 27 #[.pointer (some ⟨b, 0, none⟩)] w (RetB (decide (0 < U.q.length)) w) := by
  obtain ⟨K, r, sa, n, c, g, o, ta, m, d, h, p, hA⟩ := hU.out
  have c0 := hA.c0; have c2 := hA.c2
  have hl := hA.qlen
  clear hA
  by_cases hr : r < n
  · have hr' : (r : Int) < n := by omega
    have HV : Hid (decide (0 < U.q.length) = true) := decide_eq_true (by rw [hl]; omega)
    clear hl
    go_enter Try.func27, Try.ntmps27
    go_wp2_with fail
    go_quiet (fail)
    go_wp2_with fail
    go_ret
    exact ⟨by rw [HV.out]; rfl, (by repeat (first | (with_reducible first | exact Below.refl _ _ | assumption | exact Nat.le_refl _ | refine Below.drew ?_ | refine Below.alloc ?_ ?_ _ | refine below_drewN ?_ _ | refine Below.setCell ?_ ?_ _ | refine le_alloc ?_ | refine le_set ?_ | refine le_drew ?_ | refine le_drewN ?_ | refine below_step (by assumption) ?_ ?_ | refine le_below (by assumption) ?_) | (dsimp only; omega)))⟩
  · have hr' : ¬ (r : Int) < n := by omega
    have HV : Hid (decide (0 < U.q.length) = false) := decide_eq_false (by rw [hl]; omega)
    clear hl
    go_enter Try.func27, Try.ntmps27
    go_wp2_with fail
    go_quiet (fail)
    go_wp2_with fail
    go_ret
    exact ⟨by rw [HV.out]; rfl, (by repeat (first | (with_reducible first | exact Below.refl _ _ | assumption | exact Nat.le_refl _ | refine Below.drew ?_ | refine Below.alloc ?_ ?_ _ | refine below_drewN ?_ _ | refine Below.setCell ?_ ?_ _ | refine le_alloc ?_ | refine le_set ?_ | refine le_drew ?_ | refine le_drewN ?_ | refine below_step (by assumption) ?_ ?_ | refine le_below (by assumption) ?_) | (dsimp only; omega)))⟩
theorem upr_c (R : Nat → Nat → Prop) (N b : Nat) (U : Ur) (w : World) (hU : Hid (IsR R N w b U)) : Calls Try.prog 19 #[.pointer (some ⟨b, 0, none⟩)] w (RetB (upF U) w) := by
  obtain ⟨K, r, sa, n, c, g, o, ta, m, d, h, p, hA⟩ := hU.out
  have c0 := hA.c0; have c2 := hA.c2; have c3 := hA.c3
  have hl := hA.qlen
  have hw := hA.ok.want
  obtain ⟨x, hx⟩ : ∃ x, U.want = x := ⟨_, rfl⟩
  rw [hx] at c3 hw
  clear hA
  have : x = 0 ∨ x = 1 := by omega
  rcases this with rfl | rfl
  · have HV : Hid (upF U = false) := by show _ = _; unfold upF; rw [hx]; rfl
    clear hl hx hw
    go_enter Try.func19, Try.ntmps19
    go_wp2_with fail
    go_quiet (fail)
    go_wp2_with fail
    go_ret
    exact ⟨by rw [HV.out]; rfl, (by repeat (first | (with_reducible first | exact Below.refl _ _ | assumption | exact Nat.le_refl _ | refine Below.drew ?_ | refine Below.alloc ?_ ?_ _ | refine below_drewN ?_ _ | refine Below.setCell ?_ ?_ _ | refine le_alloc ?_ | refine le_set ?_ | refine le_drew ?_ | refine le_drewN ?_ | refine below_step (by assumption) ?_ ?_ | refine le_below (by assumption) ?_) | (dsimp only; omega)))⟩
  · by_cases hr : r < n
    · have hr' : (r : Int) < n := by omega
      have HV : Hid (upF U = true) := by show _ = _; unfold upF; rw [hx, hl, decide_eq_true (by omega : 0 < n - r)]; rfl
      clear hl hx hw
      go_enter Try.func19, Try.ntmps19
      go_wp2_with fail
      go_quiet (fail)
      go_wp2_with fail
      go_ret
      exact ⟨by rw [HV.out]; rfl, (by repeat (first | (with_reducible first | exact Below.refl _ _ | assumption | exact Nat.le_refl _ | refine Below.drew ?_ | refine Below.alloc ?_ ?_ _ | refine below_drewN ?_ _ | refine Below.setCell ?_ ?_ _ | refine le_alloc ?_ | refine le_set ?_ | refine le_drew ?_ | refine le_drewN ?_ | refine below_step (by assumption) ?_ ?_ | refine le_below (by assumption) ?_) | (dsimp only; omega)))⟩
    · have hr' : ¬ (r : Int) < n := by omega
      have HV : Hid (upF U = false) := by show _ = _; unfold upF; rw [hx, hl, decide_eq_false (by omega : ¬ 0 < n - r)]; rfl
      clear hl hx hw
      go_enter Try.func19, Try.ntmps19
      go_wp2_with fail
      go_quiet (fail)
      go_wp2_with fail
      go_ret
      exact ⟨by rw [HV.out]; rfl, (by repeat (first | (with_reducible first | exact Below.refl _ _ | assumption | exact Nat.le_refl _ | refine Below.drew ?_ | refine Below.alloc ?_ ?_ _ | refine below_drewN ?_ _ | refine Below.setCell ?_ ?_ _ | refine le_alloc ?_ | refine le_set ?_ | refine le_drew ?_ | refine le_drewN ?_ | refine below_step (by assumption) ?_ ?_ | refine le_below (by assumption) ?_) | (dsimp only; omega)))⟩
theorem sentr_c (R : Nat → Nat → Prop) (N b : Nat) (U : Ur) (w : World) (hU : Hid (IsR R N w b U)) (hn : Hid (U.sent.length < 70368744177664)) : Calls Try.prog 21 #[.pointer (some ⟨b, 0, none⟩)] w (RetSl U.sent w) := by
  obtain ⟨K, r, sa, n, c, g, o, ta, m, d, h, p, hA⟩ := hU.out
  have c1 := hA.c1
  have hb := hA.lt
  have hbn : ¬ b = w.heap.size := by omega
  have hm : m < 70368744177664 := by rw [← hA.s.len]; exact hn.out
  have HA := Lib.hid hA
  clear hA
  go_enter Try.func21, Try.ntmps21
  go_wp2_with (at_builtin; refine append_all rfl _ _ rfl (HA.out.s.below (below_one w _)) _ rfl rfl hm ?_; intro a' c' g' w' q1 q2 q3; have HQ1 := Lib.hid q1; have HQ2 := Lib.hid ((below_one w _).trans (q2.mono (by rw [sz_alloc]; omega))); have HQ3 := Lib.hid q3; clear q1 q2 q3)
  go_ret
  exact ⟨_, _, _, _, rfl, HQ1.out, fun h => Nat.le_of_succ_le (by have := HQ3.out h; rw [sz_alloc] at this; exact this), HQ2.out⟩
theorem giver_c (R : Nat → Nat → Prop) (N b x : Nat) (U : Ur) (w : World) (hU : Hid (IsR R N w b U)) (hx : Hid (x < 256)) (hN : Hid (N < 70368744177664)) : Calls Try.prog 17 #[.pointer (some ⟨b, 0, none⟩), .int .u8 x] w (RetRA (.tuple #[]) b (giveF U x) R (N + 1) w) := by
  obtain ⟨K, r, sa, n, c, g, o, ta, m, d, h, p, hA⟩ := hU.out
  have c0 := hA.c0; have c2 := hA.c2
  have hl := hA.qlen
  have hrle := hA.rle
  have h16 := hA.ok.len
  have n46 : n < 70368744177664 := Nat.lt_of_le_of_lt hA.nle hN.out
  obtain ⟨t, ht⟩ : ∃ t, n - r = t := ⟨_, rfl⟩
  have et : (n : Int) - (r : Int) = t := by omega
  have et2 : IntKind.i64.wrap ((n : Int) - (r : Int)) = t := by rw [et]; exact IntWalk.i64_in _ (by omega)
  rw [ht] at hl
  rw [hl] at h16
  clear ht
  by_cases ht : t = 16
  · subst ht
    have HF : Hid (giveF U x = { U with lost := true }) := by show _ = _; unfold giveF; rw [if_pos hl]
    have HA := Lib.hid hA
    clear hA hl h16
    go_enter Try.func17, Try.ntmps17
    go_wp2_with fail
    go_quiet (fail)
    have hb1 : Below w.heap.size w (w.drewN nq) := (by repeat (first | (with_reducible first | exact Below.refl _ _ | assumption | exact Nat.le_refl _ | refine Below.drew ?_ | refine Below.alloc ?_ ?_ _ | refine below_drewN ?_ _ | refine Below.setCell ?_ ?_ _ | refine le_alloc ?_ | refine le_set ?_ | refine le_drew ?_ | refine le_drewN ?_ | refine below_step (by assumption) ?_ ?_ | refine le_below (by assumption) ?_) | (dsimp only; omega)))
    have HX := Lib.hid (HA.out.below hb1)
    have HB := Lib.hid hb1
    have k4 := HX.out.c4; have f4 := HX.out.fz 4 (by decide)
    have HL := Lib.hid (HX.out.lost true)
    have HC : Hid (Ch R (w.drewN nq) ((w.drewN nq).setCell ⟨b, 4, none⟩ (.int .u64 1))) := Ch.set R _ b 4 _ (HX.out.rb 4) (HX.out.cells 4 (by decide))
    clear hb1
    go_wp2_with fail
    go_end0
    refine retRA_below HB.out ⟨rfl, ?_, HC.out⟩
    rw [HF.out]
    obtain ⟨K2, r2, sa2, n2, c2', g2, o2, ta2, m2, d2, h2, p2, y⟩ := HL.out.up (w.drewN nq)
    exact ⟨_, _, _, _, _, _, _, _, _, _, _, _, y.mono (Nat.le_succ _) (fun _ _ q => q) y.rlt⟩
  · have HF : Hid (giveF U x = { U with q := U.q ++ [x] }) := by show _ = _; unfold giveF; rw [if_neg (by omega)]
    have HOK : Hid (OkU { U with q := U.q ++ [x] }) := by have := hA.ok.give x hx.out; rw [HF.out] at this; exact this
    have ht' : (t : Int) < 16 := by omega
    have HA := Lib.hid hA
    clear hA hl h16 ht
    go_enter Try.func17, Try.ntmps17
    go_wp2_with fail
    go_quiet (fail)
    have hb1 : Below w.heap.size w (w.drewN nq) := (by repeat (first | (with_reducible first | exact Below.refl _ _ | assumption | exact Nat.le_refl _ | refine Below.drew ?_ | refine Below.alloc ?_ ?_ _ | refine below_drewN ?_ _ | refine Below.setCell ?_ ?_ _ | refine le_alloc ?_ | refine le_set ?_ | refine le_drew ?_ | refine le_drewN ?_ | refine below_step (by assumption) ?_ ?_ | refine le_below (by assumption) ?_) | (dsimp only; omega)))
    have HX := Lib.hid (HA.out.below hb1)
    have HB := Lib.hid hb1
    clear hb1
    clear c0 c2
    have k0 := HX.out.c0
    obtain ⟨w1, hw1⟩ : ∃ w1, w1 = w.drewN nq := ⟨_, rfl⟩
    rw [← hw1] at HX HB k0 ⊢
    clear hw1
    go_wp2_with (at_builtin; refine append_b rfl _ _ rfl (HX.out.q.below (below_one w1 _)) rfl n46 x w1.heap.size rfl (by rw [World.cell?_alloc_at _ _ _ _ rfl]; rfl) ?_; intro a' c' g' o' w' q1 q2 q3; have HQ1 := Lib.hid q1; have HQ2 := Lib.hid (ch_one q2); have HQ3 := Lib.hid (mv_of (w := w1) q3 (by rw [sz_alloc]; omega)); clear q1 q2 q3; have j0 := (HX.out.after0 HQ2.out).1; have j1 := (HX.out.after0 HQ2.out).2)
    go_end0
    have hd := HX.out.came HQ2.out HQ1.out HQ3.out hx.out HOK.out
    refine retRA_below HB.out ⟨rfl, ?_, hd.2⟩
    rw [HF.out]; exact hd.1
theorem writer_no (R : Nat → Nat → Prop) (N b a v : Nat) (z : Int) (U : Ur) (w : World) (hU : Hid (IsR R N w b U)) (hn : Hid (thereB a z = false)) : Calls Try.prog 11 #[.pointer (some ⟨b, 0, none⟩), .int .u64 a, .int .i64 z, .int .u64 v] w (RetRA (.bool false) b U R N w) := by
  by_cases hz : z = 1
  · subst hz
    have ha : ¬ a < 8 := by have := hn.out; unfold thereB at this; simp at this; omega
    have ha' : (7 : Int) < a := by omega
    clear ha
    go_enter Try.func11, Try.ntmps11
    go_wp2_with fail
    go_ret
    exact ⟨rfl, isR_below hU.out (Below.refl _ _), Ch.refl _ _⟩
  · have hz' : (z == 1) = false := by simpa using hz
    have hz2 : (z != 1) = true := by simpa using hz
    go_enter Try.func11, Try.ntmps11
    go_wp2_with fail
    go_ret
    exact ⟨rfl, isR_below hU.out (Below.refl _ _), Ch.refl _ _⟩
theorem writer_0 (R : Nat → Nat → Prop) (N b v : Nat) (U : Ur) (w : World) (hU : Hid (IsR R N w b U)) (hv : Hid (v < 18446744073709551616)) (hn : Hid (U.sent.length < 70368744177664)) : Calls Try.prog 11 #[.pointer (some ⟨b, 0, none⟩), .int .u64 0, .int .i64 1, .int .u64 v] w (RetRA (.bool true) b (wrK 1 U v) R N w) := by
  obtain ⟨K, r, sa, n, c, g, o, ta, m, d, h, p, hA⟩ := hU.out
  have c1 := hA.c1
  have m46 : m < 70368744177664 := by rw [← hA.s.len]; exact hn.out
  obtain ⟨x, hx⟩ : ∃ x, v % 256 = x := ⟨_, rfl⟩
  have ex : IntKind.u8.wrap (v : Int) = x := by rw [← hx]; simp [IntKind.wrap, IntKind.bits, IntKind.signed]
  have ex2 : (v : Int) % 256 = x := by rw [← hx]; omega
  have HX : Hid (wrK 1 U v = { U with sent := U.sent ++ [x] }) := by show _ = _; rw [← hx]; rfl
  have HA := Lib.hid hA
  clear hA hx
  go_enter Try.func11, Try.ntmps11
  go_wp2_with (at_builtin; refine append_b rfl _ _ rfl (HA.out.s.below (below_one w _)) rfl m46 x w.heap.size rfl (by rw [World.cell?_alloc_at _ _ _ _ rfl]; rfl) ?_; intro a' c' g' o' w' q1 q2 q3; have HQ1 := Lib.hid q1; have HQ2 := Lib.hid (ch_one q2); have HQ3 := Lib.hid (mv_of (w := w) q3 (by rw [sz_alloc]; omega)); clear q1 q2 q3; have k0 := (HA.out.after1 HQ2.out).1; have k1 := (HA.out.after1 HQ2.out).2)
  go_ret
  have hd := HA.out.went HQ2.out HQ1.out HQ3.out
  refine ⟨rfl, ?_, hd.2⟩
  rw [HX.out]; exact hd.1
theorem writer_1 (R : Nat → Nat → Prop) (N b v : Nat) (U : Ur) (w : World) (hU : Hid (IsR R N w b U)) (hv : Hid (v < 18446744073709551616)) (hn : Hid (U.sent.length < 70368744177664)) : Calls Try.prog 11 #[.pointer (some ⟨b, 0, none⟩), .int .u64 1, .int .i64 1, .int .u64 v] w (RetRA (.bool true) b (wrK 2 U v) R N w) := by
  obtain ⟨K, r, sa, n, c, g, o, ta, m, d, h, p, hA⟩ := hU.out
  have c0 := hA.c3; have f0 := hA.fz 3 (by decide)
  obtain ⟨x, hx⟩ : ∃ x, v % 2 = x := ⟨_, rfl⟩
  have ex : (v : Int) % 2 = x := by rw [← hx]; omega
  have ex2 : (v : Int).tmod 2 = x := by rw [Int.tmod_eq_emod_of_nonneg (by omega)]; exact ex
  have HX : Hid (wrK 2 U v = { U with want := x }) := by show _ = _; rw [← hx]; rfl
  have HA := Lib.hid (hA.want x (by rw [← hx]; exact Nat.mod_lt _ (by decide)))
  have HC : Hid (Ch R w (w.setCell ⟨b, 3, none⟩ (.int .u64 (x : Nat)))) := Ch.set R w b 3 _ (hA.rb 3) (hA.cells 3 (by decide))
  clear hA hx
  go_enter Try.func11, Try.ntmps11
  go_wp2_with fail
  go_ret
  refine ⟨rfl, ?_, HC.out⟩
  rw [HX.out]; exact HA.out.up w
theorem writer_2 (R : Nat → Nat → Prop) (N b v : Nat) (U : Ur) (w : World) (hU : Hid (IsR R N w b U)) (hv : Hid (v < 18446744073709551616)) (hn : Hid (U.sent.length < 70368744177664)) : Calls Try.prog 11 #[.pointer (some ⟨b, 0, none⟩), .int .u64 2, .int .i64 1, .int .u64 v] w (RetRA (.bool true) b (wrK 3 U v) R N w) := by
  go_enter Try.func11, Try.ntmps11
  go_wp2_with fail
  go_ret
  exact ⟨rfl, isR_below hU.out (Below.refl _ _), Ch.refl _ _⟩
theorem writer_3 (R : Nat → Nat → Prop) (N b v : Nat) (U : Ur) (w : World) (hU : Hid (IsR R N w b U)) (hv : Hid (v < 18446744073709551616)) (hn : Hid (U.sent.length < 70368744177664)) : Calls Try.prog 11 #[.pointer (some ⟨b, 0, none⟩), .int .u64 3, .int .i64 1, .int .u64 v] w (RetRA (.bool true) b (wrK 4 U v) R N w) := by
  go_enter Try.func11, Try.ntmps11
  go_wp2_with fail
  go_ret
  exact ⟨rfl, isR_below hU.out (Below.refl _ _), Ch.refl _ _⟩
theorem writer_4 (R : Nat → Nat → Prop) (N b v : Nat) (U : Ur) (w : World) (hU : Hid (IsR R N w b U)) (hv : Hid (v < 18446744073709551616)) (hn : Hid (U.sent.length < 70368744177664)) : Calls Try.prog 11 #[.pointer (some ⟨b, 0, none⟩), .int .u64 4, .int .i64 1, .int .u64 v] w (RetRA (.bool true) b (wrK 5 U v) R N w) := by
  go_enter Try.func11, Try.ntmps11
  go_wp2_with fail
  go_ret
  exact ⟨rfl, isR_below hU.out (Below.refl _ _), Ch.refl _ _⟩
theorem writer_5 (R : Nat → Nat → Prop) (N b v : Nat) (U : Ur) (w : World) (hU : Hid (IsR R N w b U)) (hv : Hid (v < 18446744073709551616)) (hn : Hid (U.sent.length < 70368744177664)) : Calls Try.prog 11 #[.pointer (some ⟨b, 0, none⟩), .int .u64 5, .int .i64 1, .int .u64 v] w (RetRA (.bool true) b (wrK 6 U v) R N w) := by
  go_enter Try.func11, Try.ntmps11
  go_wp2_with fail
  go_ret
  exact ⟨rfl, isR_below hU.out (Below.refl _ _), Ch.refl _ _⟩
theorem writer_6 (R : Nat → Nat → Prop) (N b v : Nat) (U : Ur) (w : World) (hU : Hid (IsR R N w b U)) (hv : Hid (v < 18446744073709551616)) (hn : Hid (U.sent.length < 70368744177664)) : Calls Try.prog 11 #[.pointer (some ⟨b, 0, none⟩), .int .u64 6, .int .i64 1, .int .u64 v] w (RetRA (.bool true) b (wrK 7 U v) R N w) := by
  go_enter Try.func11, Try.ntmps11
  go_wp2_with fail
  go_ret
  exact ⟨rfl, isR_below hU.out (Below.refl _ _), Ch.refl _ _⟩
theorem writer_7 (R : Nat → Nat → Prop) (N b v : Nat) (U : Ur) (w : World) (hU : Hid (IsR R N w b U)) (hv : Hid (v < 18446744073709551616)) (hn : Hid (U.sent.length < 70368744177664)) : Calls Try.prog 11 #[.pointer (some ⟨b, 0, none⟩), .int .u64 7, .int .i64 1, .int .u64 v] w (RetRA (.bool true) b (wrK 8 U v) R N w) := by
  obtain ⟨K, r, sa, n, c, g, o, ta, m, d, h, p, hA⟩ := hU.out
  have c0 := hA.c5; have f0 := hA.fz 5 (by decide)
  obtain ⟨x, hx⟩ : ∃ x, v % 256 = x := ⟨_, rfl⟩
  have ex : (v : Int) % 256 = x := by rw [← hx]; omega
  have ex2 : (v : Int).tmod 256 = x := by rw [Int.tmod_eq_emod_of_nonneg (by omega)]; exact ex
  have HX : Hid (wrK 8 U v = { U with scr := x }) := by show _ = _; rw [← hx]; rfl
  have HA := Lib.hid (hA.scr x (by rw [← hx]; exact Nat.mod_lt _ (by decide)))
  have HC : Hid (Ch R w (w.setCell ⟨b, 5, none⟩ (.int .u64 (x : Nat)))) := Ch.set R w b 5 _ (hA.rb 5) (hA.cells 5 (by decide))
  clear hA hx
  go_enter Try.func11, Try.ntmps11
  go_wp2_with fail
  go_ret
  refine ⟨rfl, ?_, HC.out⟩
  rw [HX.out]; exact HA.out.up w
theorem writer_c (R : Nat → Nat → Prop) (N b a v : Nat) (z : Int) (U : Ur) (w : World) (hU : Hid (IsR R N w b U)) (hv : Hid (v < 18446744073709551616)) (hn : Hid (U.sent.length < 70368744177664)) : Calls Try.prog 11 #[.pointer (some ⟨b, 0, none⟩), .int .u64 a, .int .i64 z, .int .u64 v] w (RetRA (.bool (okK (kd a z))) b (wrK (kd a z) U v) R N w) := by
  cases ht : thereB a z
  · rw [there_no a z ht]
    exact writer_no R N b a v z U w hU ht
  · obtain ⟨rfl, h8⟩ := there_yes a z ht
    rw [kd_one a h8]
    rcases a8 h8 with rfl | rfl | rfl | rfl | rfl | rfl | rfl | rfl
    · exact writer_0 R N b v U w hU hv hn
    · exact writer_1 R N b v U w hU hv hn
    · exact writer_2 R N b v U w hU hv hn
    · exact writer_3 R N b v U w hU hv hn
    · exact writer_4 R N b v U w hU hv hn
    · exact writer_5 R N b v U w hU hv hn
    · exact writer_6 R N b v U w hU hv hn
    · exact writer_7 R N b v U w hU hv hn
end Go.Proofs.Ytjjmohhkhadadaa
