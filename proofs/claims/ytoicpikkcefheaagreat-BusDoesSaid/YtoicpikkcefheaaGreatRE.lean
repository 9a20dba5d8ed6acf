/- The document's plic: registers read. -/
import Derived.Test.YtoicpikkcefheaaGreatRC
import Derived.Test.YtoicpikkcefheaaGreatRD
namespace Go.Proofs.YtoicpikkcefheaaGreat.P
open Go.ChangeShapes Go.WideShapes Go.ChangeAt Go.RowKit Go.Sort
open M (Fp Dj Cw Up Th)
set_option linter.unusedVariables false
set_option linter.unusedSimpArgs false
set_option maxRecDepth 20000
theorem best_st (S : St) (c : Nat) (h : best S c ≠ 0) : S.st (best S c) = 1 := by
  rcases best_spec S c 7 with ⟨h1, -⟩ | ⟨q, -, -, -, h4, -⟩
  · exact absurd h1 h
  · have h4 : hitB S c q (best S c) = true := h4
    unfold hitB at h4
    simp at h4; exact h4.2.1
theorem retZ_same {val : Value} {b e p t ce cp ct u v s : Nat} {S : St} {w : World} (h : IsRP w b e p t ce cp ct u v s S) : RetZ val b e p t ce cp ct S w (.returned val) w := ⟨rfl, ⟨_, _, _, h⟩, Cw.refl _ _⟩
theorem isRP_claim {w w' : World} {b e p t ce cp ct u v s n v' s' : Nat} {S : St} (h : IsRP w b e p t ce cp ct u v s S) (hn : 1 ≤ n ∧ n < 9) (hst : S.st n = 1) (hr : Raw w' b e p t ce cp ct u v' s' S) (h1 : Bits v' (set (fun k => S.st k == 1) n false)) (h2 : Bits s' (set (fun k => S.st k == 2) n true)) : IsRP w' b e p t ce cp ct u v' s' (S.setSt n 2) :=
  ⟨raw_congr hr rfl rfl rfl, h.bu, h1.congr (fun k _ => by
      show _ = (set S.st n 2 k == 1)
      by_cases q : k = n
      · subst q; rw [set_same2, set_same2]; rfl
      · rw [set_ne2 _ _ _ _ q, set_ne2 _ _ _ _ q]), h2.congr (fun k _ => by
      show _ = (set S.st n 2 k == 2)
      by_cases q : k = n
      · subst q; rw [set_same2, set_same2]; rfl
      · rw [set_ne2 _ _ _ _ q, set_ne2 _ _ _ _ q]), h.ok.setSt n 2 (by decide),
    fun k hk => by
      show set S.st n 2 k ≠ 0
      by_cases q : k = n
      · subst q; rw [set_same2]; decide
      · rw [set_ne2 _ _ _ _ q]; exact h.inv.1 k hk, h.inv.2.1, by
      show set S.st n 2 0 = 0
      rw [set_ne2 _ _ _ _ (by omega)]; exact h.inv.2.2.1, h.inv.2.2.2⟩
set_option maxRecDepth 100000 in
theorem readr_pr0 (b e p t ce cp ct u v s : Nat) (S : St) (w : World) (h : Hid (IsRP w b e p t ce cp ct u v s S)) : Calls Tryz.prog 85 #[.pointer (some ⟨b, 0, none⟩), .int .u64 0, .int .i64 4] w (RetZ (.tuple #[.int .u64 (S.pr 0 : Nat), .bool true]) b e p t ce cp ct S w) := by
  have X1 : Hid (∀ w, Calls Tryz.prog 79 #[.int .u64 0, .int .u64 8192, .int .u64 128] w (RetIX (-1) w)) := fun w => context_c 0 8192 128 (by decide) w
  have X2 : Hid (∀ w, Calls Tryz.prog 79 #[.int .u64 0, .int .u64 2097152, .int .u64 4096] w (RetIX (-1) w)) := fun w => context_c 0 2097152 4096 (by decide) w
  have X3 : Hid (∀ w, Calls Tryz.prog 79 #[.int .u64 0, .int .u64 2097156, .int .u64 4096] w (RetIX (-1) w)) := fun w => context_c 0 2097156 4096 (by decide) w
  have k4 := h.out.raw.c4
  have k0 := (h.out.raw.pr 0 (by decide)).1
  have hcp := h.out.raw.hcp
  have HF := Lib.hid (retZ_same (val := .tuple #[.int .u64 (S.pr 0 : Nat), .bool true]) h.out)
  clear h hcp
  go_enter Tryz.func85, Tryz.ntmps85
  go_wp2_with fail
  refine (X1.out _).mono ?_; rintro e0 w1 ⟨rfl, q⟩; subst q
  go_wp2_with fail
  refine (X2.out _).mono ?_; rintro e0 w1 ⟨rfl, q⟩; subst q
  go_wp2_with fail
  refine (X3.out _).mono ?_; rintro e0 w1 ⟨rfl, q⟩; subst q
  go_wp2_with fail
  go_ret2
  exact HF.out
set_option maxRecDepth 100000 in
theorem readr_pr1 (b e p t ce cp ct u v s : Nat) (S : St) (w : World) (h : Hid (IsRP w b e p t ce cp ct u v s S)) : Calls Tryz.prog 85 #[.pointer (some ⟨b, 0, none⟩), .int .u64 4, .int .i64 4] w (RetZ (.tuple #[.int .u64 (S.pr 1 : Nat), .bool true]) b e p t ce cp ct S w) := by
  have X1 : Hid (∀ w, Calls Tryz.prog 79 #[.int .u64 4, .int .u64 8192, .int .u64 128] w (RetIX (-1) w)) := fun w => context_c 4 8192 128 (by decide) w
  have X2 : Hid (∀ w, Calls Tryz.prog 79 #[.int .u64 4, .int .u64 2097152, .int .u64 4096] w (RetIX (-1) w)) := fun w => context_c 4 2097152 4096 (by decide) w
  have X3 : Hid (∀ w, Calls Tryz.prog 79 #[.int .u64 4, .int .u64 2097156, .int .u64 4096] w (RetIX (-1) w)) := fun w => context_c 4 2097156 4096 (by decide) w
  have k4 := h.out.raw.c4
  have k0 := (h.out.raw.pr 1 (by decide)).1
  have hcp := h.out.raw.hcp
  have HF := Lib.hid (retZ_same (val := .tuple #[.int .u64 (S.pr 1 : Nat), .bool true]) h.out)
  clear h hcp
  go_enter Tryz.func85, Tryz.ntmps85
  go_wp2_with fail
  refine (X1.out _).mono ?_; rintro e0 w1 ⟨rfl, q⟩; subst q
  go_wp2_with fail
  refine (X2.out _).mono ?_; rintro e0 w1 ⟨rfl, q⟩; subst q
  go_wp2_with fail
  refine (X3.out _).mono ?_; rintro e0 w1 ⟨rfl, q⟩; subst q
  go_wp2_with fail
  go_ret2
  exact HF.out
set_option maxRecDepth 100000 in
theorem readr_pr2 (b e p t ce cp ct u v s : Nat) (S : St) (w : World) (h : Hid (IsRP w b e p t ce cp ct u v s S)) : Calls Tryz.prog 85 #[.pointer (some ⟨b, 0, none⟩), .int .u64 8, .int .i64 4] w (RetZ (.tuple #[.int .u64 (S.pr 2 : Nat), .bool true]) b e p t ce cp ct S w) := by
  have X1 : Hid (∀ w, Calls Tryz.prog 79 #[.int .u64 8, .int .u64 8192, .int .u64 128] w (RetIX (-1) w)) := fun w => context_c 8 8192 128 (by decide) w
  have X2 : Hid (∀ w, Calls Tryz.prog 79 #[.int .u64 8, .int .u64 2097152, .int .u64 4096] w (RetIX (-1) w)) := fun w => context_c 8 2097152 4096 (by decide) w
  have X3 : Hid (∀ w, Calls Tryz.prog 79 #[.int .u64 8, .int .u64 2097156, .int .u64 4096] w (RetIX (-1) w)) := fun w => context_c 8 2097156 4096 (by decide) w
  have k4 := h.out.raw.c4
  have k0 := (h.out.raw.pr 2 (by decide)).1
  have hcp := h.out.raw.hcp
  have HF := Lib.hid (retZ_same (val := .tuple #[.int .u64 (S.pr 2 : Nat), .bool true]) h.out)
  clear h hcp
  go_enter Tryz.func85, Tryz.ntmps85
  go_wp2_with fail
  refine (X1.out _).mono ?_; rintro e0 w1 ⟨rfl, q⟩; subst q
  go_wp2_with fail
  refine (X2.out _).mono ?_; rintro e0 w1 ⟨rfl, q⟩; subst q
  go_wp2_with fail
  refine (X3.out _).mono ?_; rintro e0 w1 ⟨rfl, q⟩; subst q
  go_wp2_with fail
  go_ret2
  exact HF.out
set_option maxRecDepth 100000 in
theorem readr_pr3 (b e p t ce cp ct u v s : Nat) (S : St) (w : World) (h : Hid (IsRP w b e p t ce cp ct u v s S)) : Calls Tryz.prog 85 #[.pointer (some ⟨b, 0, none⟩), .int .u64 12, .int .i64 4] w (RetZ (.tuple #[.int .u64 (S.pr 3 : Nat), .bool true]) b e p t ce cp ct S w) := by
  have X1 : Hid (∀ w, Calls Tryz.prog 79 #[.int .u64 12, .int .u64 8192, .int .u64 128] w (RetIX (-1) w)) := fun w => context_c 12 8192 128 (by decide) w
  have X2 : Hid (∀ w, Calls Tryz.prog 79 #[.int .u64 12, .int .u64 2097152, .int .u64 4096] w (RetIX (-1) w)) := fun w => context_c 12 2097152 4096 (by decide) w
  have X3 : Hid (∀ w, Calls Tryz.prog 79 #[.int .u64 12, .int .u64 2097156, .int .u64 4096] w (RetIX (-1) w)) := fun w => context_c 12 2097156 4096 (by decide) w
  have k4 := h.out.raw.c4
  have k0 := (h.out.raw.pr 3 (by decide)).1
  have hcp := h.out.raw.hcp
  have HF := Lib.hid (retZ_same (val := .tuple #[.int .u64 (S.pr 3 : Nat), .bool true]) h.out)
  clear h hcp
  go_enter Tryz.func85, Tryz.ntmps85
  go_wp2_with fail
  refine (X1.out _).mono ?_; rintro e0 w1 ⟨rfl, q⟩; subst q
  go_wp2_with fail
  refine (X2.out _).mono ?_; rintro e0 w1 ⟨rfl, q⟩; subst q
  go_wp2_with fail
  refine (X3.out _).mono ?_; rintro e0 w1 ⟨rfl, q⟩; subst q
  go_wp2_with fail
  go_ret2
  exact HF.out
set_option maxRecDepth 100000 in
theorem readr_pr4 (b e p t ce cp ct u v s : Nat) (S : St) (w : World) (h : Hid (IsRP w b e p t ce cp ct u v s S)) : Calls Tryz.prog 85 #[.pointer (some ⟨b, 0, none⟩), .int .u64 16, .int .i64 4] w (RetZ (.tuple #[.int .u64 (S.pr 4 : Nat), .bool true]) b e p t ce cp ct S w) := by
  have X1 : Hid (∀ w, Calls Tryz.prog 79 #[.int .u64 16, .int .u64 8192, .int .u64 128] w (RetIX (-1) w)) := fun w => context_c 16 8192 128 (by decide) w
  have X2 : Hid (∀ w, Calls Tryz.prog 79 #[.int .u64 16, .int .u64 2097152, .int .u64 4096] w (RetIX (-1) w)) := fun w => context_c 16 2097152 4096 (by decide) w
  have X3 : Hid (∀ w, Calls Tryz.prog 79 #[.int .u64 16, .int .u64 2097156, .int .u64 4096] w (RetIX (-1) w)) := fun w => context_c 16 2097156 4096 (by decide) w
  have k4 := h.out.raw.c4
  have k0 := (h.out.raw.pr 4 (by decide)).1
  have hcp := h.out.raw.hcp
  have HF := Lib.hid (retZ_same (val := .tuple #[.int .u64 (S.pr 4 : Nat), .bool true]) h.out)
  clear h hcp
  go_enter Tryz.func85, Tryz.ntmps85
  go_wp2_with fail
  refine (X1.out _).mono ?_; rintro e0 w1 ⟨rfl, q⟩; subst q
  go_wp2_with fail
  refine (X2.out _).mono ?_; rintro e0 w1 ⟨rfl, q⟩; subst q
  go_wp2_with fail
  refine (X3.out _).mono ?_; rintro e0 w1 ⟨rfl, q⟩; subst q
  go_wp2_with fail
  go_ret2
  exact HF.out
set_option maxRecDepth 100000 in
theorem readr_pr5 (b e p t ce cp ct u v s : Nat) (S : St) (w : World) (h : Hid (IsRP w b e p t ce cp ct u v s S)) : Calls Tryz.prog 85 #[.pointer (some ⟨b, 0, none⟩), .int .u64 20, .int .i64 4] w (RetZ (.tuple #[.int .u64 (S.pr 5 : Nat), .bool true]) b e p t ce cp ct S w) := by
  have X1 : Hid (∀ w, Calls Tryz.prog 79 #[.int .u64 20, .int .u64 8192, .int .u64 128] w (RetIX (-1) w)) := fun w => context_c 20 8192 128 (by decide) w
  have X2 : Hid (∀ w, Calls Tryz.prog 79 #[.int .u64 20, .int .u64 2097152, .int .u64 4096] w (RetIX (-1) w)) := fun w => context_c 20 2097152 4096 (by decide) w
  have X3 : Hid (∀ w, Calls Tryz.prog 79 #[.int .u64 20, .int .u64 2097156, .int .u64 4096] w (RetIX (-1) w)) := fun w => context_c 20 2097156 4096 (by decide) w
  have k4 := h.out.raw.c4
  have k0 := (h.out.raw.pr 5 (by decide)).1
  have hcp := h.out.raw.hcp
  have HF := Lib.hid (retZ_same (val := .tuple #[.int .u64 (S.pr 5 : Nat), .bool true]) h.out)
  clear h hcp
  go_enter Tryz.func85, Tryz.ntmps85
  go_wp2_with fail
  refine (X1.out _).mono ?_; rintro e0 w1 ⟨rfl, q⟩; subst q
  go_wp2_with fail
  refine (X2.out _).mono ?_; rintro e0 w1 ⟨rfl, q⟩; subst q
  go_wp2_with fail
  refine (X3.out _).mono ?_; rintro e0 w1 ⟨rfl, q⟩; subst q
  go_wp2_with fail
  go_ret2
  exact HF.out
set_option maxRecDepth 100000 in
theorem readr_pr6 (b e p t ce cp ct u v s : Nat) (S : St) (w : World) (h : Hid (IsRP w b e p t ce cp ct u v s S)) : Calls Tryz.prog 85 #[.pointer (some ⟨b, 0, none⟩), .int .u64 24, .int .i64 4] w (RetZ (.tuple #[.int .u64 (S.pr 6 : Nat), .bool true]) b e p t ce cp ct S w) := by
  have X1 : Hid (∀ w, Calls Tryz.prog 79 #[.int .u64 24, .int .u64 8192, .int .u64 128] w (RetIX (-1) w)) := fun w => context_c 24 8192 128 (by decide) w
  have X2 : Hid (∀ w, Calls Tryz.prog 79 #[.int .u64 24, .int .u64 2097152, .int .u64 4096] w (RetIX (-1) w)) := fun w => context_c 24 2097152 4096 (by decide) w
  have X3 : Hid (∀ w, Calls Tryz.prog 79 #[.int .u64 24, .int .u64 2097156, .int .u64 4096] w (RetIX (-1) w)) := fun w => context_c 24 2097156 4096 (by decide) w
  have k4 := h.out.raw.c4
  have k0 := (h.out.raw.pr 6 (by decide)).1
  have hcp := h.out.raw.hcp
  have HF := Lib.hid (retZ_same (val := .tuple #[.int .u64 (S.pr 6 : Nat), .bool true]) h.out)
  clear h hcp
  go_enter Tryz.func85, Tryz.ntmps85
  go_wp2_with fail
  refine (X1.out _).mono ?_; rintro e0 w1 ⟨rfl, q⟩; subst q
  go_wp2_with fail
  refine (X2.out _).mono ?_; rintro e0 w1 ⟨rfl, q⟩; subst q
  go_wp2_with fail
  refine (X3.out _).mono ?_; rintro e0 w1 ⟨rfl, q⟩; subst q
  go_wp2_with fail
  go_ret2
  exact HF.out
set_option maxRecDepth 100000 in
theorem readr_pr7 (b e p t ce cp ct u v s : Nat) (S : St) (w : World) (h : Hid (IsRP w b e p t ce cp ct u v s S)) : Calls Tryz.prog 85 #[.pointer (some ⟨b, 0, none⟩), .int .u64 28, .int .i64 4] w (RetZ (.tuple #[.int .u64 (S.pr 7 : Nat), .bool true]) b e p t ce cp ct S w) := by
  have X1 : Hid (∀ w, Calls Tryz.prog 79 #[.int .u64 28, .int .u64 8192, .int .u64 128] w (RetIX (-1) w)) := fun w => context_c 28 8192 128 (by decide) w
  have X2 : Hid (∀ w, Calls Tryz.prog 79 #[.int .u64 28, .int .u64 2097152, .int .u64 4096] w (RetIX (-1) w)) := fun w => context_c 28 2097152 4096 (by decide) w
  have X3 : Hid (∀ w, Calls Tryz.prog 79 #[.int .u64 28, .int .u64 2097156, .int .u64 4096] w (RetIX (-1) w)) := fun w => context_c 28 2097156 4096 (by decide) w
  have k4 := h.out.raw.c4
  have k0 := (h.out.raw.pr 7 (by decide)).1
  have hcp := h.out.raw.hcp
  have HF := Lib.hid (retZ_same (val := .tuple #[.int .u64 (S.pr 7 : Nat), .bool true]) h.out)
  clear h hcp
  go_enter Tryz.func85, Tryz.ntmps85
  go_wp2_with fail
  refine (X1.out _).mono ?_; rintro e0 w1 ⟨rfl, q⟩; subst q
  go_wp2_with fail
  refine (X2.out _).mono ?_; rintro e0 w1 ⟨rfl, q⟩; subst q
  go_wp2_with fail
  refine (X3.out _).mono ?_; rintro e0 w1 ⟨rfl, q⟩; subst q
  go_wp2_with fail
  go_ret2
  exact HF.out
set_option maxRecDepth 100000 in
theorem readr_pr8 (b e p t ce cp ct u v s : Nat) (S : St) (w : World) (h : Hid (IsRP w b e p t ce cp ct u v s S)) : Calls Tryz.prog 85 #[.pointer (some ⟨b, 0, none⟩), .int .u64 32, .int .i64 4] w (RetZ (.tuple #[.int .u64 (S.pr 8 : Nat), .bool true]) b e p t ce cp ct S w) := by
  have X1 : Hid (∀ w, Calls Tryz.prog 79 #[.int .u64 32, .int .u64 8192, .int .u64 128] w (RetIX (-1) w)) := fun w => context_c 32 8192 128 (by decide) w
  have X2 : Hid (∀ w, Calls Tryz.prog 79 #[.int .u64 32, .int .u64 2097152, .int .u64 4096] w (RetIX (-1) w)) := fun w => context_c 32 2097152 4096 (by decide) w
  have X3 : Hid (∀ w, Calls Tryz.prog 79 #[.int .u64 32, .int .u64 2097156, .int .u64 4096] w (RetIX (-1) w)) := fun w => context_c 32 2097156 4096 (by decide) w
  have k4 := h.out.raw.c4
  have k0 := (h.out.raw.pr 8 (by decide)).1
  have hcp := h.out.raw.hcp
  have HF := Lib.hid (retZ_same (val := .tuple #[.int .u64 (S.pr 8 : Nat), .bool true]) h.out)
  clear h hcp
  go_enter Tryz.func85, Tryz.ntmps85
  go_wp2_with fail
  refine (X1.out _).mono ?_; rintro e0 w1 ⟨rfl, q⟩; subst q
  go_wp2_with fail
  refine (X2.out _).mono ?_; rintro e0 w1 ⟨rfl, q⟩; subst q
  go_wp2_with fail
  refine (X3.out _).mono ?_; rintro e0 w1 ⟨rfl, q⟩; subst q
  go_wp2_with fail
  go_ret2
  exact HF.out
set_option maxRecDepth 100000 in
theorem readr_wait (b e p t ce cp ct u v s : Nat) (S : St) (w : World) (h : Hid (IsRP w b e p t ce cp ct u v s S)) : Calls Tryz.prog 85 #[.pointer (some ⟨b, 0, none⟩), .int .u64 4096, .int .i64 4] w (RetZ (.tuple #[.int .u64 (waitF S 9 : Nat), .bool true]) b e p t ce cp ct S w) := by
  have X1 : Hid (∀ w, Calls Tryz.prog 79 #[.int .u64 4096, .int .u64 8192, .int .u64 128] w (RetIX (-1) w)) := fun w => context_c 4096 8192 128 (by decide) w
  have X2 : Hid (∀ w, Calls Tryz.prog 79 #[.int .u64 4096, .int .u64 2097152, .int .u64 4096] w (RetIX (-1) w)) := fun w => context_c 4096 2097152 4096 (by decide) w
  have X3 : Hid (∀ w, Calls Tryz.prog 79 #[.int .u64 4096, .int .u64 2097156, .int .u64 4096] w (RetIX (-1) w)) := fun w => context_c 4096 2097156 4096 (by decide) w
  have k0 := h.out.raw.c1
  have ev : v = waitF S 9 := h.out.bv.ext (waitF_bits S)
  have HF := Lib.hid (retZ_same (val := .tuple #[.int .u64 (v : Nat), .bool true]) h.out)
  rw [← ev]
  clear h ev
  go_enter Tryz.func85, Tryz.ntmps85
  go_wp2_with fail
  refine (X1.out _).mono ?_; rintro e0 w1 ⟨rfl, q⟩; subst q
  go_wp2_with fail
  refine (X2.out _).mono ?_; rintro e0 w1 ⟨rfl, q⟩; subst q
  go_wp2_with fail
  refine (X3.out _).mono ?_; rintro e0 w1 ⟨rfl, q⟩; subst q
  go_wp2_with fail
  go_ret2
  exact HF.out
set_option maxRecDepth 100000 in
theorem readr_en0 (b e p t ce cp ct u v s : Nat) (S : St) (w : World) (h : Hid (IsRP w b e p t ce cp ct u v s S)) : Calls Tryz.prog 85 #[.pointer (some ⟨b, 0, none⟩), .int .u64 8192, .int .i64 4] w (RetZ (.tuple #[.int .u64 (S.en 0 : Nat), .bool true]) b e p t ce cp ct S w) := by
  have X1 : Hid (∀ w, Calls Tryz.prog 79 #[.int .u64 8192, .int .u64 8192, .int .u64 128] w (RetIX 0 w)) := fun w => context_c 8192 8192 128 (by decide) w
  have X2 : Hid (∀ w, Calls Tryz.prog 79 #[.int .u64 8192, .int .u64 2097152, .int .u64 4096] w (RetIX (-1) w)) := fun w => context_c 8192 2097152 4096 (by decide) w
  have X3 : Hid (∀ w, Calls Tryz.prog 79 #[.int .u64 8192, .int .u64 2097156, .int .u64 4096] w (RetIX (-1) w)) := fun w => context_c 8192 2097156 4096 (by decide) w
  have k4 := h.out.raw.c3
  have k0 := (h.out.raw.en 0 (by decide)).1
  have HF := Lib.hid (retZ_same (val := .tuple #[.int .u64 (S.en 0 : Nat), .bool true]) h.out)
  clear h
  go_enter Tryz.func85, Tryz.ntmps85
  go_wp2_with fail
  refine (X1.out _).mono ?_; rintro e0 w1 ⟨rfl, q⟩; subst q
  go_wp2_with fail
  refine (X2.out _).mono ?_; rintro e0 w1 ⟨rfl, q⟩; subst q
  go_wp2_with fail
  refine (X3.out _).mono ?_; rintro e0 w1 ⟨rfl, q⟩; subst q
  go_wp2_with fail
  go_ret2
  exact HF.out
set_option maxRecDepth 100000 in
theorem readr_en1 (b e p t ce cp ct u v s : Nat) (S : St) (w : World) (h : Hid (IsRP w b e p t ce cp ct u v s S)) : Calls Tryz.prog 85 #[.pointer (some ⟨b, 0, none⟩), .int .u64 8320, .int .i64 4] w (RetZ (.tuple #[.int .u64 (S.en 1 : Nat), .bool true]) b e p t ce cp ct S w) := by
  have X1 : Hid (∀ w, Calls Tryz.prog 79 #[.int .u64 8320, .int .u64 8192, .int .u64 128] w (RetIX 1 w)) := fun w => context_c 8320 8192 128 (by decide) w
  have X2 : Hid (∀ w, Calls Tryz.prog 79 #[.int .u64 8320, .int .u64 2097152, .int .u64 4096] w (RetIX (-1) w)) := fun w => context_c 8320 2097152 4096 (by decide) w
  have X3 : Hid (∀ w, Calls Tryz.prog 79 #[.int .u64 8320, .int .u64 2097156, .int .u64 4096] w (RetIX (-1) w)) := fun w => context_c 8320 2097156 4096 (by decide) w
  have k4 := h.out.raw.c3
  have k0 := (h.out.raw.en 1 (by decide)).1
  have HF := Lib.hid (retZ_same (val := .tuple #[.int .u64 (S.en 1 : Nat), .bool true]) h.out)
  clear h
  go_enter Tryz.func85, Tryz.ntmps85
  go_wp2_with fail
  refine (X1.out _).mono ?_; rintro e0 w1 ⟨rfl, q⟩; subst q
  go_wp2_with fail
  refine (X2.out _).mono ?_; rintro e0 w1 ⟨rfl, q⟩; subst q
  go_wp2_with fail
  refine (X3.out _).mono ?_; rintro e0 w1 ⟨rfl, q⟩; subst q
  go_wp2_with fail
  go_ret2
  exact HF.out
set_option maxRecDepth 100000 in
theorem readr_th0 (b e p t ce cp ct u v s : Nat) (S : St) (w : World) (h : Hid (IsRP w b e p t ce cp ct u v s S)) : Calls Tryz.prog 85 #[.pointer (some ⟨b, 0, none⟩), .int .u64 2097152, .int .i64 4] w (RetZ (.tuple #[.int .u64 (S.th 0 : Nat), .bool true]) b e p t ce cp ct S w) := by
  have X1 : Hid (∀ w, Calls Tryz.prog 79 #[.int .u64 2097152, .int .u64 8192, .int .u64 128] w (RetIX (-1) w)) := fun w => context_c 2097152 8192 128 (by decide) w
  have X2 : Hid (∀ w, Calls Tryz.prog 79 #[.int .u64 2097152, .int .u64 2097152, .int .u64 4096] w (RetIX 0 w)) := fun w => context_c 2097152 2097152 4096 (by decide) w
  have X3 : Hid (∀ w, Calls Tryz.prog 79 #[.int .u64 2097152, .int .u64 2097156, .int .u64 4096] w (RetIX (-1) w)) := fun w => context_c 2097152 2097156 4096 (by decide) w
  have k4 := h.out.raw.c5
  have k0 := (h.out.raw.th 0 (by decide)).1
  have HF := Lib.hid (retZ_same (val := .tuple #[.int .u64 (S.th 0 : Nat), .bool true]) h.out)
  clear h
  go_enter Tryz.func85, Tryz.ntmps85
  go_wp2_with fail
  refine (X1.out _).mono ?_; rintro e0 w1 ⟨rfl, q⟩; subst q
  go_wp2_with fail
  refine (X2.out _).mono ?_; rintro e0 w1 ⟨rfl, q⟩; subst q
  go_wp2_with fail
  refine (X3.out _).mono ?_; rintro e0 w1 ⟨rfl, q⟩; subst q
  go_wp2_with fail
  go_ret2
  exact HF.out
set_option maxRecDepth 100000 in
theorem readr_th1 (b e p t ce cp ct u v s : Nat) (S : St) (w : World) (h : Hid (IsRP w b e p t ce cp ct u v s S)) : Calls Tryz.prog 85 #[.pointer (some ⟨b, 0, none⟩), .int .u64 2101248, .int .i64 4] w (RetZ (.tuple #[.int .u64 (S.th 1 : Nat), .bool true]) b e p t ce cp ct S w) := by
  have X1 : Hid (∀ w, Calls Tryz.prog 79 #[.int .u64 2101248, .int .u64 8192, .int .u64 128] w (RetIX (-1) w)) := fun w => context_c 2101248 8192 128 (by decide) w
  have X2 : Hid (∀ w, Calls Tryz.prog 79 #[.int .u64 2101248, .int .u64 2097152, .int .u64 4096] w (RetIX 1 w)) := fun w => context_c 2101248 2097152 4096 (by decide) w
  have X3 : Hid (∀ w, Calls Tryz.prog 79 #[.int .u64 2101248, .int .u64 2097156, .int .u64 4096] w (RetIX (-1) w)) := fun w => context_c 2101248 2097156 4096 (by decide) w
  have k4 := h.out.raw.c5
  have k0 := (h.out.raw.th 1 (by decide)).1
  have HF := Lib.hid (retZ_same (val := .tuple #[.int .u64 (S.th 1 : Nat), .bool true]) h.out)
  clear h
  go_enter Tryz.func85, Tryz.ntmps85
  go_wp2_with fail
  refine (X1.out _).mono ?_; rintro e0 w1 ⟨rfl, q⟩; subst q
  go_wp2_with fail
  refine (X2.out _).mono ?_; rintro e0 w1 ⟨rfl, q⟩; subst q
  go_wp2_with fail
  refine (X3.out _).mono ?_; rintro e0 w1 ⟨rfl, q⟩; subst q
  go_wp2_with fail
  go_ret2
  exact HF.out
set_option maxRecDepth 100000 in
theorem readr_no0 (b e p t ce cp ct u v s : Nat) (S : St) (w : World) (h : Hid (IsRP w b e p t ce cp ct u v s S)) (a : Nat) (hno : ¬ (a ≤ 32 ∧ a % 4 = 0) ∧ a ≠ 4096 ∧ a ≠ 8192 ∧ a ≠ 8320 ∧ a ≠ 2097152 ∧ a ≠ 2101248 ∧ a ≠ 2097156 ∧ a ≠ 2101252) (hl : a ≤ 32) : Calls Tryz.prog 85 #[.pointer (some ⟨b, 0, none⟩), .int .u64 a, .int .i64 4] w (RetZ (.tuple #[.int .u64 0, .bool false]) b e p t ce cp ct S w) := by
  have X1 := Lib.hid (fun w => context_c a 8192 128 (by decide) w)
  have X2 := Lib.hid (fun w => context_c a 2097152 4096 (by decide) w)
  have X3 := Lib.hid (fun w => context_c a 2097156 4096 (by decide) w)
  obtain ⟨h1, h2, h3, h4, h5, h6, h7, h8⟩ := hno
  rw [show ctxF a 8192 128 = -1 by unfold ctxF; rw [if_neg h3, if_neg h4]] at X1
  rw [show ctxF a 2097152 4096 = -1 by unfold ctxF; rw [if_neg h5, if_neg h6]] at X2
  rw [show ctxF a 2097156 4096 = -1 by unfold ctxF; rw [if_neg h7, if_neg h8]] at X3
  have l1 : (a : Int) ≤ 32 := by omega
  have m0 : ¬ a % 4 = 0 := fun q => h1 ⟨hl, q⟩
  have m1 : (((a : Int) % 4) == 0) = false := by rw [beq_eq_false_iff_ne]; omega
  have m2 : decide ((a : Int) % 4 = 0) = false := decide_eq_false (by omega)
  have m3 : ((a : Int).tmod 4 == 0) = false := by rw [beq_eq_false_iff_ne, Int.tmod_eq_emod_of_nonneg (by omega)]; omega
  have z0 : ((a : Int) == 0) = false := by rw [beq_eq_false_iff_ne]; intro q; apply h1; omega
  have d2 : ((a : Int) == 4096) = false := by rw [beq_eq_false_iff_ne]; omega
  have HF := Lib.hid (retZ_same (val := .tuple #[.int .u64 0, .bool false]) h.out)
  clear h h1 h2 h3 h4 h5 h6 h7 h8 hl m0
  go_enter Tryz.func85, Tryz.ntmps85
  go_wp2_with fail
  refine (X1.out _).mono ?_; rintro e0 w1 ⟨rfl, q⟩; subst q
  go_wp2_with fail
  refine (X2.out _).mono ?_; rintro e0 w1 ⟨rfl, q⟩; subst q
  go_wp2_with fail
  refine (X3.out _).mono ?_; rintro e0 w1 ⟨rfl, q⟩; subst q
  go_wp2_with fail
  go_ret2
  exact HF.out
set_option maxRecDepth 100000 in
theorem readr_no1 (b e p t ce cp ct u v s : Nat) (S : St) (w : World) (h : Hid (IsRP w b e p t ce cp ct u v s S)) (a : Nat) (hno : ¬ (a ≤ 32 ∧ a % 4 = 0) ∧ a ≠ 4096 ∧ a ≠ 8192 ∧ a ≠ 8320 ∧ a ≠ 2097152 ∧ a ≠ 2101248 ∧ a ≠ 2097156 ∧ a ≠ 2101252) (hl : ¬ a ≤ 32) : Calls Tryz.prog 85 #[.pointer (some ⟨b, 0, none⟩), .int .u64 a, .int .i64 4] w (RetZ (.tuple #[.int .u64 0, .bool false]) b e p t ce cp ct S w) := by
  have X1 := Lib.hid (fun w => context_c a 8192 128 (by decide) w)
  have X2 := Lib.hid (fun w => context_c a 2097152 4096 (by decide) w)
  have X3 := Lib.hid (fun w => context_c a 2097156 4096 (by decide) w)
  obtain ⟨h1, h2, h3, h4, h5, h6, h7, h8⟩ := hno
  rw [show ctxF a 8192 128 = -1 by unfold ctxF; rw [if_neg h3, if_neg h4]] at X1
  rw [show ctxF a 2097152 4096 = -1 by unfold ctxF; rw [if_neg h5, if_neg h6]] at X2
  rw [show ctxF a 2097156 4096 = -1 by unfold ctxF; rw [if_neg h7, if_neg h8]] at X3
  have l1 : ¬ (a : Int) ≤ 32 := by omega
  have z0 : ((a : Int) == 0) = false := by rw [beq_eq_false_iff_ne]; intro q; apply h1; omega
  have d2 : ((a : Int) == 4096) = false := by rw [beq_eq_false_iff_ne]; omega
  have HF := Lib.hid (retZ_same (val := .tuple #[.int .u64 0, .bool false]) h.out)
  clear h h1 h2 h3 h4 h5 h6 h7 h8 hl
  go_enter Tryz.func85, Tryz.ntmps85
  go_wp2_with fail
  refine (X1.out _).mono ?_; rintro e0 w1 ⟨rfl, q⟩; subst q
  go_wp2_with fail
  refine (X2.out _).mono ?_; rintro e0 w1 ⟨rfl, q⟩; subst q
  go_wp2_with fail
  refine (X3.out _).mono ?_; rintro e0 w1 ⟨rfl, q⟩; subst q
  go_wp2_with fail
  go_ret2
  exact HF.out
set_option maxRecDepth 100000 in
theorem readr_size (b e p t ce cp ct u v s : Nat) (S : St) (w : World) (h : Hid (IsRP w b e p t ce cp ct u v s S)) (a : Nat) (z : Int) (hz : z ≠ 4) : Calls Tryz.prog 85 #[.pointer (some ⟨b, 0, none⟩), .int .u64 a, .int .i64 z] w (RetZ (.tuple #[.int .u64 0, .bool false]) b e p t ce cp ct S w) := by
  have d1 : (z == 4) = false := by rw [beq_eq_false_iff_ne]; exact hz
  have HF := Lib.hid (retZ_same (val := .tuple #[.int .u64 0, .bool false]) h.out)
  clear h
  go_enter Tryz.func85, Tryz.ntmps85
  go_wp2_with fail
  go_ret2
  exact HF.out
end Go.Proofs.YtoicpikkcefheaaGreat.P
