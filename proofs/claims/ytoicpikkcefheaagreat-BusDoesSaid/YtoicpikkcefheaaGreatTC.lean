/- Taken from other texts: what is needed of them. -/
import Derived.Test.YtoicpikkcefheaaGreatTA
import Derived.Test.YtoicpikkcefheaaGreatTB
import Derived.Laws.Bits64
import Derived.Laws.Bits64b
namespace Go.Proofs.YtoicpikkcefheaaGreat.T
set_option linter.unusedVariables false
set_option linter.unusedSimpArgs false
set_option maxRecDepth 20000
open Go.ChangeShapes Go.WideShapes Go.ChangeAt Go.RowKit
theorem and1 (x : Nat) (hx : x < 18446744073709551616) : bits .and .u64 (x : Int) 1 = ((x % 2 : Nat) : Int) := by
  have h := bits_and_u64_nat x 1 hx (by decide)
  rw [Nat.and_one_is_mod] at h
  exact h
theorem isU_self {R W : Nat → Nat → Prop} {w : World} {b : Nat} {U : Ur} (hU : IsU R W w b U) : IsU (Up R w w) (Up W w w) w b U := by
  obtain ⟨sa, n, c, g, o, ta, m, d, h, p, hA⟩ := hU
  exact hA.up w
theorem there_no (a : Nat) (z : Int) (h : thereB a z = false) : kd a z = 0 := by
  unfold thereB at h; unfold kd
  rw [if_neg]
  rintro ⟨h1, h2⟩
  rw [decide_eq_true h1, decide_eq_true h2] at h; cases h
theorem there_yes (a : Nat) (z : Int) (h : thereB a z = true) : z = 1 ∧ a < 8 := by
  unfold thereB at h
  simp at h
  exact ⟨h.2, h.1⟩
theorem kd_one (a : Nat) (h : a < 8) : kd a 1 = a + 1 := by unfold kd; rw [if_pos ⟨rfl, h⟩]
theorem read_no (R W : Nat → Nat → Prop) (b a : Nat) (z : Int) (U : Ur) (w : World) (hU : Hid (IsU R W w b U)) (hn : Hid (thereB a z = false)) : Calls Tryz.prog 128 #[.pointer (some ⟨b, 0, none⟩), .int .u64 a, .int .i64 z] w (RetA (.tuple #[.int .u64 0, .bool false]) b U R W w) := by
  go_enter Tryz.func128, Tryz.ntmps128
  go_wp2_with fail
  refine (there_c a z w).mono ?_; rintro e w1 ⟨rfl, h1⟩
  subst h1
  rw [hn.out]
  go_wp2_with fail
  go_ret2
  exact ⟨rfl, isU_self hU.out, Ch.refl _ _⟩
theorem write_no (R W : Nat → Nat → Prop) (b a v : Nat) (z : Int) (U : Ur) (w : World) (hU : Hid (IsU R W w b U)) (hn : Hid (thereB a z = false)) : Calls Tryz.prog 129 #[.pointer (some ⟨b, 0, none⟩), .int .u64 a, .int .i64 z, .int .u64 v] w (RetA (.bool false) b U R W w) := by
  go_enter Tryz.func129, Tryz.ntmps129
  go_wp2_with fail
  refine (there_c a z w).mono ?_; rintro e w1 ⟨rfl, h1⟩
  subst h1
  rw [hn.out]
  go_wp2_with fail
  go_ret
  exact ⟨rfl, isU_self hU.out, Ch.refl _ _⟩
theorem read_0 (R W : Nat → Nat → Prop) (b : Nat) (U : Ur) (w : World) (hU : Hid (IsU R W w b U)) : Calls Tryz.prog 128 #[.pointer (some ⟨b, 0, none⟩), .int .u64 0, .int .i64 1] w (RetA (.tuple #[.int .u64 (valK 1 U : Nat), .bool true]) b (nextK 1 U) R W w) := by
  obtain ⟨sa, n, c, g, o, ta, m, d, h, p, hA⟩ := hU.out
  obtain ⟨x, hx⟩ : ∃ x, U.q.headD 0 = x := ⟨_, rfl⟩
  have x8 : x < 256 := by rw [← hx]; exact head_lt hA.ok
  have ex : IntKind.u64.wrap (x : Int) = x := by rw [IntKind.wrap_u64]; omega
  have HX : Hid (valK 1 U = x) := by show _ = _; rw [← hx]; rfl
  have HT : Hid (∀ w1, w1 = w → Calls Tryz.prog 131 #[.pointer (some ⟨b, 0, none⟩)] w1 (RetA (.int .u8 (x : Nat)) b (nextK 1 U) R W w1)) := fun w1 e => by subst e; rw [← hx]; exact take_c R W b U w1 hU
  clear hA hx
  go_enter Tryz.func128, Tryz.ntmps128
  go_wp2_with fail
  refine (there_c 0 1 w).mono ?_; rintro e w1 ⟨rfl, h1⟩
  replace h1 := h1.symm; subst h1
  rw [show thereB 0 1 = true from rfl]
  go_wp2_with fail
  refine (HT.out _ rfl).mono ?_; rintro e w2 ⟨rfl, h1, h2⟩
  go_wp2_with fail
  go_ret2
  exact ⟨by rw [HX.out]; rfl, h1, h2⟩
theorem read_1 (R W : Nat → Nat → Prop) (b : Nat) (U : Ur) (w : World) (hU : Hid (IsU R W w b U)) : Calls Tryz.prog 128 #[.pointer (some ⟨b, 0, none⟩), .int .u64 1, .int .i64 1] w (RetA (.tuple #[.int .u64 (valK 2 U : Nat), .bool true]) b (nextK 2 U) R W w) := by
  obtain ⟨sa, n, c, g, o, ta, m, d, h, p, hA⟩ := hU.out
  have c0 := hA.c2
  obtain ⟨x, hx⟩ : ∃ x, U.want = x := ⟨_, rfl⟩
  rw [hx] at c0
  have HX : Hid (valK 2 U = x) := by show _ = _; rw [← hx]; rfl
  clear hA hx
  go_enter Tryz.func128, Tryz.ntmps128
  go_wp2_with fail
  refine (there_c 1 1 w).mono ?_; rintro e w1 ⟨rfl, h1⟩
  replace h1 := h1.symm; subst h1
  rw [show thereB 1 1 = true from rfl]
  go_wp2_with fail
  go_ret2
  exact ⟨by rw [HX.out]; rfl, isU_self hU.out, Ch.refl _ _⟩
theorem read_2 (R W : Nat → Nat → Prop) (b : Nat) (U : Ur) (w : World) (hU : Hid (IsU R W w b U)) : Calls Tryz.prog 128 #[.pointer (some ⟨b, 0, none⟩), .int .u64 2, .int .i64 1] w (RetA (.tuple #[.int .u64 (valK 3 U : Nat), .bool true]) b (nextK 3 U) R W w) := by
  have HT : Hid (∀ w1, w1 = w → Calls Tryz.prog 132 #[.pointer (some ⟨b, 0, none⟩)] w1 (fun e w' => e = .returned (.int .u64 (valK 3 U : Nat)) ∧ w' = w1)) := fun w1 e => by subst e; exact cause_c R W b U w1 hU
  go_enter Tryz.func128, Tryz.ntmps128
  go_wp2_with fail
  refine (there_c 2 1 w).mono ?_; rintro e w1 ⟨rfl, h1⟩
  replace h1 := h1.symm; subst h1
  rw [show thereB 2 1 = true from rfl]
  go_wp2_with fail
  refine (HT.out _ rfl).mono ?_; rintro e w2 ⟨rfl, h1⟩
  subst h1
  go_wp2_with fail
  go_ret2
  exact ⟨rfl, isU_self hU.out, Ch.refl _ _⟩
theorem read_3 (R W : Nat → Nat → Prop) (b : Nat) (U : Ur) (w : World) (hU : Hid (IsU R W w b U)) : Calls Tryz.prog 128 #[.pointer (some ⟨b, 0, none⟩), .int .u64 3, .int .i64 1] w (RetA (.tuple #[.int .u64 (valK 4 U : Nat), .bool true]) b (nextK 4 U) R W w) := by
  go_enter Tryz.func128, Tryz.ntmps128
  go_wp2_with fail
  refine (there_c 3 1 w).mono ?_; rintro e w1 ⟨rfl, h1⟩
  replace h1 := h1.symm; subst h1
  rw [show thereB 3 1 = true from rfl]
  go_wp2_with fail
  go_ret2
  exact ⟨rfl, isU_self hU.out, Ch.refl _ _⟩
theorem read_4 (R W : Nat → Nat → Prop) (b : Nat) (U : Ur) (w : World) (hU : Hid (IsU R W w b U)) : Calls Tryz.prog 128 #[.pointer (some ⟨b, 0, none⟩), .int .u64 4, .int .i64 1] w (RetA (.tuple #[.int .u64 (valK 5 U : Nat), .bool true]) b (nextK 5 U) R W w) := by
  go_enter Tryz.func128, Tryz.ntmps128
  go_wp2_with fail
  refine (there_c 4 1 w).mono ?_; rintro e w1 ⟨rfl, h1⟩
  replace h1 := h1.symm; subst h1
  rw [show thereB 4 1 = true from rfl]
  go_wp2_with fail
  go_ret2
  exact ⟨rfl, isU_self hU.out, Ch.refl _ _⟩
theorem read_5 (R W : Nat → Nat → Prop) (b : Nat) (U : Ur) (w : World) (hU : Hid (IsU R W w b U)) : Calls Tryz.prog 128 #[.pointer (some ⟨b, 0, none⟩), .int .u64 5, .int .i64 1] w (RetA (.tuple #[.int .u64 (valK 6 U : Nat), .bool true]) b (nextK 6 U) R W w) := by
  have HT : Hid (∀ w1, w1 = w → Calls Tryz.prog 133 #[.pointer (some ⟨b, 0, none⟩)] w1 (RetA (.int .u64 (valK 6 U : Nat)) b (nextK 6 U) R W w1)) := fun w1 e => by subst e; exact state_c R W b U w1 hU
  go_enter Tryz.func128, Tryz.ntmps128
  go_wp2_with fail
  refine (there_c 5 1 w).mono ?_; rintro e w1 ⟨rfl, h1⟩
  replace h1 := h1.symm; subst h1
  rw [show thereB 5 1 = true from rfl]
  go_wp2_with fail
  refine (HT.out _ rfl).mono ?_; rintro e w2 ⟨rfl, h1, h2⟩
  go_wp2_with fail
  go_ret2
  exact ⟨rfl, h1, h2⟩
theorem read_6 (R W : Nat → Nat → Prop) (b : Nat) (U : Ur) (w : World) (hU : Hid (IsU R W w b U)) : Calls Tryz.prog 128 #[.pointer (some ⟨b, 0, none⟩), .int .u64 6, .int .i64 1] w (RetA (.tuple #[.int .u64 (valK 7 U : Nat), .bool true]) b (nextK 7 U) R W w) := by
  go_enter Tryz.func128, Tryz.ntmps128
  go_wp2_with fail
  refine (there_c 6 1 w).mono ?_; rintro e w1 ⟨rfl, h1⟩
  replace h1 := h1.symm; subst h1
  rw [show thereB 6 1 = true from rfl]
  go_wp2_with fail
  go_ret2
  exact ⟨rfl, isU_self hU.out, Ch.refl _ _⟩
theorem read_7 (R W : Nat → Nat → Prop) (b : Nat) (U : Ur) (w : World) (hU : Hid (IsU R W w b U)) : Calls Tryz.prog 128 #[.pointer (some ⟨b, 0, none⟩), .int .u64 7, .int .i64 1] w (RetA (.tuple #[.int .u64 (valK 8 U : Nat), .bool true]) b (nextK 8 U) R W w) := by
  obtain ⟨sa, n, c, g, o, ta, m, d, h, p, hA⟩ := hU.out
  have c0 := hA.c3
  obtain ⟨x, hx⟩ : ∃ x, U.scr = x := ⟨_, rfl⟩
  rw [hx] at c0
  have HX : Hid (valK 8 U = x) := by show _ = _; rw [← hx]; rfl
  have x8 : x < 256 := by rw [← hx]; exact hA.ok.scr
  have ex : IntKind.u64.wrap (x : Int) = x := by rw [IntKind.wrap_u64]; omega
  clear hA hx
  go_enter Tryz.func128, Tryz.ntmps128
  go_wp2_with fail
  refine (there_c 7 1 w).mono ?_; rintro e w1 ⟨rfl, h1⟩
  replace h1 := h1.symm; subst h1
  rw [show thereB 7 1 = true from rfl]
  go_wp2_with fail
  go_ret2
  exact ⟨by rw [HX.out]; rfl, isU_self hU.out, Ch.refl _ _⟩
theorem write_0 (R W : Nat → Nat → Prop) (b v : Nat) (U : Ur) (w : World) (hU : Hid (IsU R W w b U)) (hv : Hid (v < 18446744073709551616)) (hn : Hid (U.sent.length < 70368744177664)) : Calls Tryz.prog 129 #[.pointer (some ⟨b, 0, none⟩), .int .u64 0, .int .i64 1, .int .u64 v] w (RetA (.bool true) b (wrK 1 U v) R W w) := by
  obtain ⟨sa, n, c, g, o, ta, m, d, h, p, hA⟩ := hU.out
  have c4 := hA.c4; have f4 := hA.fz 4 (by decide)
  have m46 : m < 70368744177664 := by rw [← hA.s.len]; exact hn.out
  obtain ⟨x, hx⟩ : ∃ x, v % 256 = x := ⟨_, rfl⟩
  have ex : IntKind.u8.wrap (v : Int) = x := by rw [← hx]; simp [IntKind.wrap, IntKind.bits, IntKind.signed]
  have ex2 : (v : Int) % 256 = x := by rw [← hx]; omega
  have HX : Hid (wrK 1 U v = { U with sent := U.sent ++ [x] }) := by show _ = _; rw [← hx]; rfl
  have HA := Lib.hid hA
  clear hA hx
  go_enter Tryz.func129, Tryz.ntmps129
  go_wp2_with fail
  refine (there_c 0 1 w).mono ?_; rintro e w1 ⟨rfl, h1⟩
  replace h1 := h1.symm; subst h1
  rw [show thereB 0 1 = true from rfl]
  go_wp2_with (at_builtin; refine append_b rfl _ _ rfl (HA.out.s.below (below_one w _)) rfl m46 x w.heap.size rfl (by rw [World.cell?_alloc_at _ _ _ _ rfl]; rfl) ?_; intro a' c' g' o' w' q1 q2 q3; have HQ1 := Lib.hid q1; have HQ2 := Lib.hid (ch_one q2); have HQ3 := Lib.hid (mv_of (w := w) q3 (by rw [sz_alloc]; omega)); clear q1 q2 q3; have k0 := (HA.out.after4 HQ2.out).1; have k1 := (HA.out.after4 HQ2.out).2)
  go_ret
  have hd := HA.out.done4 HQ2.out HQ1.out (Nat.le_succ _) HQ3.out
  refine ⟨rfl, ?_, hd.2⟩
  rw [HX.out]; exact hd.1
theorem write_1 (R W : Nat → Nat → Prop) (b v : Nat) (U : Ur) (w : World) (hU : Hid (IsU R W w b U)) (hv : Hid (v < 18446744073709551616)) (hn : Hid (U.sent.length < 70368744177664)) : Calls Tryz.prog 129 #[.pointer (some ⟨b, 0, none⟩), .int .u64 1, .int .i64 1, .int .u64 v] w (RetA (.bool true) b (wrK 2 U v) R W w) := by
  obtain ⟨sa, n, c, g, o, ta, m, d, h, p, hA⟩ := hU.out
  have c0 := hA.c2; have f0 := hA.fz 2 (by decide)
  obtain ⟨x, hx⟩ : ∃ x, v % 2 = x := ⟨_, rfl⟩
  have ex : bits .and .u64 (v : Int) 1 = (x : Int) := by rw [← hx]; exact and1 v hv.out
  have HX : Hid (wrK 2 U v = { U with want := x }) := by show _ = _; rw [← hx]; rfl
  have HA := Lib.hid (hA.want x (by rw [← hx]; exact Nat.mod_lt _ (by decide)))
  have HC : Hid (Ch W w (w.setCell ⟨b, 2, none⟩ (.int .u64 (x : Nat)))) := Ch.set W w b 2 _ (hA.wb 2) (hA.cells 2 (by decide))
  clear hA hx
  go_enter Tryz.func129, Tryz.ntmps129
  go_wp2_with fail
  refine (there_c 1 1 w).mono ?_; rintro e w1 ⟨rfl, h1⟩
  replace h1 := h1.symm; subst h1
  rw [show thereB 1 1 = true from rfl]
  go_wp2_with fail
  go_ret
  refine ⟨rfl, ?_, HC.out⟩
  rw [HX.out]; exact HA.out.up w
theorem write_2 (R W : Nat → Nat → Prop) (b v : Nat) (U : Ur) (w : World) (hU : Hid (IsU R W w b U)) (hv : Hid (v < 18446744073709551616)) (hn : Hid (U.sent.length < 70368744177664)) : Calls Tryz.prog 129 #[.pointer (some ⟨b, 0, none⟩), .int .u64 2, .int .i64 1, .int .u64 v] w (RetA (.bool true) b (wrK 3 U v) R W w) := by
  go_enter Tryz.func129, Tryz.ntmps129
  go_wp2_with fail
  refine (there_c 2 1 w).mono ?_; rintro e w1 ⟨rfl, h1⟩
  replace h1 := h1.symm; subst h1
  rw [show thereB 2 1 = true from rfl]
  go_wp2_with fail
  go_ret
  exact ⟨rfl, isU_self hU.out, Ch.refl _ _⟩
theorem write_3 (R W : Nat → Nat → Prop) (b v : Nat) (U : Ur) (w : World) (hU : Hid (IsU R W w b U)) (hv : Hid (v < 18446744073709551616)) (hn : Hid (U.sent.length < 70368744177664)) : Calls Tryz.prog 129 #[.pointer (some ⟨b, 0, none⟩), .int .u64 3, .int .i64 1, .int .u64 v] w (RetA (.bool true) b (wrK 4 U v) R W w) := by
  go_enter Tryz.func129, Tryz.ntmps129
  go_wp2_with fail
  refine (there_c 3 1 w).mono ?_; rintro e w1 ⟨rfl, h1⟩
  replace h1 := h1.symm; subst h1
  rw [show thereB 3 1 = true from rfl]
  go_wp2_with fail
  go_ret
  exact ⟨rfl, isU_self hU.out, Ch.refl _ _⟩
theorem write_4 (R W : Nat → Nat → Prop) (b v : Nat) (U : Ur) (w : World) (hU : Hid (IsU R W w b U)) (hv : Hid (v < 18446744073709551616)) (hn : Hid (U.sent.length < 70368744177664)) : Calls Tryz.prog 129 #[.pointer (some ⟨b, 0, none⟩), .int .u64 4, .int .i64 1, .int .u64 v] w (RetA (.bool true) b (wrK 5 U v) R W w) := by
  go_enter Tryz.func129, Tryz.ntmps129
  go_wp2_with fail
  refine (there_c 4 1 w).mono ?_; rintro e w1 ⟨rfl, h1⟩
  replace h1 := h1.symm; subst h1
  rw [show thereB 4 1 = true from rfl]
  go_wp2_with fail
  go_ret
  exact ⟨rfl, isU_self hU.out, Ch.refl _ _⟩
theorem write_5 (R W : Nat → Nat → Prop) (b v : Nat) (U : Ur) (w : World) (hU : Hid (IsU R W w b U)) (hv : Hid (v < 18446744073709551616)) (hn : Hid (U.sent.length < 70368744177664)) : Calls Tryz.prog 129 #[.pointer (some ⟨b, 0, none⟩), .int .u64 5, .int .i64 1, .int .u64 v] w (RetA (.bool true) b (wrK 6 U v) R W w) := by
  go_enter Tryz.func129, Tryz.ntmps129
  go_wp2_with fail
  refine (there_c 5 1 w).mono ?_; rintro e w1 ⟨rfl, h1⟩
  replace h1 := h1.symm; subst h1
  rw [show thereB 5 1 = true from rfl]
  go_wp2_with fail
  go_ret
  exact ⟨rfl, isU_self hU.out, Ch.refl _ _⟩
theorem write_6 (R W : Nat → Nat → Prop) (b v : Nat) (U : Ur) (w : World) (hU : Hid (IsU R W w b U)) (hv : Hid (v < 18446744073709551616)) (hn : Hid (U.sent.length < 70368744177664)) : Calls Tryz.prog 129 #[.pointer (some ⟨b, 0, none⟩), .int .u64 6, .int .i64 1, .int .u64 v] w (RetA (.bool true) b (wrK 7 U v) R W w) := by
  go_enter Tryz.func129, Tryz.ntmps129
  go_wp2_with fail
  refine (there_c 6 1 w).mono ?_; rintro e w1 ⟨rfl, h1⟩
  replace h1 := h1.symm; subst h1
  rw [show thereB 6 1 = true from rfl]
  go_wp2_with fail
  go_ret
  exact ⟨rfl, isU_self hU.out, Ch.refl _ _⟩
theorem write_7 (R W : Nat → Nat → Prop) (b v : Nat) (U : Ur) (w : World) (hU : Hid (IsU R W w b U)) (hv : Hid (v < 18446744073709551616)) (hn : Hid (U.sent.length < 70368744177664)) : Calls Tryz.prog 129 #[.pointer (some ⟨b, 0, none⟩), .int .u64 7, .int .i64 1, .int .u64 v] w (RetA (.bool true) b (wrK 8 U v) R W w) := by
  obtain ⟨sa, n, c, g, o, ta, m, d, h, p, hA⟩ := hU.out
  have c0 := hA.c3; have f0 := hA.fz 3 (by decide)
  obtain ⟨x, hx⟩ : ∃ x, v % 256 = x := ⟨_, rfl⟩
  have ex : IntKind.u8.wrap (v : Int) = x := by rw [← hx]; simp [IntKind.wrap, IntKind.bits, IntKind.signed]
  have ex2 : (v : Int) % 256 = x := by rw [← hx]; omega
  have HX : Hid (wrK 8 U v = { U with scr := x }) := by show _ = _; rw [← hx]; rfl
  have HA := Lib.hid (hA.scr x (by rw [← hx]; exact Nat.mod_lt _ (by decide)))
  have HC : Hid (Ch W w (w.setCell ⟨b, 3, none⟩ (.int .u8 (x : Nat)))) := Ch.set W w b 3 _ (hA.wb 3) (hA.cells 3 (by decide))
  clear hA hx
  go_enter Tryz.func129, Tryz.ntmps129
  go_wp2_with fail
  refine (there_c 7 1 w).mono ?_; rintro e w1 ⟨rfl, h1⟩
  replace h1 := h1.symm; subst h1
  rw [show thereB 7 1 = true from rfl]
  go_wp2_with fail
  go_ret
  refine ⟨rfl, ?_, HC.out⟩
  rw [HX.out]; exact HA.out.up w
theorem a8 {a : Nat} (h : a < 8) : a = 0 ∨ a = 1 ∨ a = 2 ∨ a = 3 ∨ a = 4 ∨ a = 5 ∨ a = 6 ∨ a = 7 := by omega
theorem read_c (R W : Nat → Nat → Prop) (b a : Nat) (z : Int) (U : Ur) (w : World) (hU : Hid (IsU R W w b U)) : Calls Tryz.prog 128 #[.pointer (some ⟨b, 0, none⟩), .int .u64 a, .int .i64 z] w (RetA (.tuple #[.int .u64 (valK (kd a z) U : Nat), .bool (okK (kd a z))]) b (nextK (kd a z) U) R W w) := by
  cases ht : thereB a z
  · rw [there_no a z ht]
    exact read_no R W b a z U w hU ht
  · obtain ⟨rfl, h8⟩ := there_yes a z ht
    rw [kd_one a h8]
    rcases a8 h8 with rfl | rfl | rfl | rfl | rfl | rfl | rfl | rfl
    · exact read_0 R W b U w hU
    · exact read_1 R W b U w hU
    · exact read_2 R W b U w hU
    · exact read_3 R W b U w hU
    · exact read_4 R W b U w hU
    · exact read_5 R W b U w hU
    · exact read_6 R W b U w hU
    · exact read_7 R W b U w hU
theorem write_c (R W : Nat → Nat → Prop) (b a v : Nat) (z : Int) (U : Ur) (w : World) (hU : Hid (IsU R W w b U)) (hv : Hid (v < 18446744073709551616)) (hn : Hid (U.sent.length < 70368744177664)) : Calls Tryz.prog 129 #[.pointer (some ⟨b, 0, none⟩), .int .u64 a, .int .i64 z, .int .u64 v] w (RetA (.bool (okK (kd a z))) b (wrK (kd a z) U v) R W w) := by
  cases ht : thereB a z
  · rw [there_no a z ht]
    exact write_no R W b a v z U w hU ht
  · obtain ⟨rfl, h8⟩ := there_yes a z ht
    rw [kd_one a h8]
    rcases a8 h8 with rfl | rfl | rfl | rfl | rfl | rfl | rfl | rfl
    · exact write_0 R W b v U w hU hv hn
    · exact write_1 R W b v U w hU hv hn
    · exact write_2 R W b v U w hU hv hn
    · exact write_3 R W b v U w hU hv hn
    · exact write_4 R W b v U w hU hv hn
    · exact write_5 R W b v U w hU hv hn
    · exact write_6 R W b v U w hU hv hn
    · exact write_7 R W b v U w hU hv hn
end Go.Proofs.YtoicpikkcefheaaGreat.T
