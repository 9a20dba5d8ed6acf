/- The document's plic: registers written. -/
import Derived.Test.YtoicpikkcefheaaGreatRF
import Derived.Test.YtoicpikkcefheaaGreatRA2
namespace Go.Proofs.YtoicpikkcefheaaGreat.P
open Go.ChangeShapes Go.WideShapes Go.ChangeAt Go.RowKit Go.Sort
open M (Fp Dj Cw Up Th)
set_option linter.unusedVariables false
set_option linter.unusedSimpArgs false
set_option maxRecDepth 20000
theorem isRP_set {w w' : World} {b e p t ce cp ct u v s : Nat} {S S' : St} (h : IsRP w b e p t ce cp ct u v s S) (hr : Raw w' b e p t ce cp ct u v s S') (h1 : S'.up = S.up) (h2 : S'.st = S.st) (h3 : OkS S') (h4 : S'.pr 0 = 0) : IsRP w' b e p t ce cp ct u v s S' :=
  ⟨hr, by rw [h1]; exact h.bu, by rw [h2]; exact h.bv, by rw [h2]; exact h.bs, h3, ⟨by rw [h1, h2]; exact h.inv.1, h4, by rw [h2]; exact h.inv.2.2.1, by rw [h1]; exact h.inv.2.2.2⟩⟩
theorem mask510 (v : Nat) (hv : v < 4294967296) : bits .and .u64 (v : Int) 510 = ((v &&& 510 : Nat) : Int) := bits_and_u64_nat v 510 (by omega) (by decide)
theorem mod32_510 (v : Nat) : v % 4294967296 &&& 510 = v &&& 510 := by
  apply Nat.eq_of_testBit_eq
  intro i
  rw [Nat.testBit_and, Nat.testBit_and, show (4294967296 : Nat) = 2 ^ 32 from rfl, Nat.testBit_mod_two_pow]
  by_cases hi : i < 32
  · simp [hi]
  · have : (510 : Nat).testBit i = false := Nat.testBit_lt_two_pow (Nat.lt_of_lt_of_le (show 510 < 2 ^ 32 by decide) (Nat.pow_le_pow_right (by decide) (by omega)))
    simp [this]
set_option maxRecDepth 100000 in
theorem writer_z0 (b e p t ce cp ct u v s : Nat) (S : St) (w : World) (h : Hid (IsRP w b e p t ce cp ct u v s S)) (x : Nat) (hx : Hid (x < 18446744073709551616)) : Calls Tryz.prog 40 #[.pointer (some ⟨b, 0, none⟩), .int .u64 0, .int .i64 4, .int .u64 x] w (RetZ (.bool true) b e p t ce cp ct S w) := by
  have X1 : Hid (∀ w, Calls Tryz.prog 79 #[.int .u64 0, .int .u64 8192, .int .u64 128] w (RetIX (-1) w)) := fun w => context_c 0 8192 128 (by decide) w
  have X2 : Hid (∀ w, Calls Tryz.prog 79 #[.int .u64 0, .int .u64 2097152, .int .u64 4096] w (RetIX (-1) w)) := fun w => context_c 0 2097152 4096 (by decide) w
  have X3 : Hid (∀ w, Calls Tryz.prog 79 #[.int .u64 0, .int .u64 2097156, .int .u64 4096] w (RetIX (-1) w)) := fun w => context_c 0 2097156 4096 (by decide) w
  have HF := Lib.hid (retZ_same (val := .bool true) h.out)
  obtain ⟨y, hy⟩ : ∃ y, y = x % 4294967296 := ⟨_, rfl⟩
  have y1 : (x : Int) % 4294967296 = (y : Int) := by rw [hy]; omega
  have y2 : (x : Int).tmod 4294967296 = (y : Int) := by rw [Int.tmod_eq_emod_of_nonneg (by omega)]; exact y1
  have y32 : y < 4294967296 := by omega
  clear h hy y32 hx
  go_enter Tryz.func40, Tryz.ntmps40
  go_wp2_with fail
  refine (X1.out _).mono ?_; rintro e0 w1 ⟨rfl, q⟩; subst q
  go_wp2_with fail
  refine (X2.out _).mono ?_; rintro e0 w1 ⟨rfl, q⟩; subst q
  go_wp2_with fail
  refine (X3.out _).mono ?_; rintro e0 w1 ⟨rfl, q⟩; subst q
  go_wp2_with fail
  go_ret
  exact HF.out
set_option maxRecDepth 100000 in
theorem writer_z4096 (b e p t ce cp ct u v s : Nat) (S : St) (w : World) (h : Hid (IsRP w b e p t ce cp ct u v s S)) (x : Nat) (hx : Hid (x < 18446744073709551616)) : Calls Tryz.prog 40 #[.pointer (some ⟨b, 0, none⟩), .int .u64 4096, .int .i64 4, .int .u64 x] w (RetZ (.bool true) b e p t ce cp ct S w) := by
  have X1 : Hid (∀ w, Calls Tryz.prog 79 #[.int .u64 4096, .int .u64 8192, .int .u64 128] w (RetIX (-1) w)) := fun w => context_c 4096 8192 128 (by decide) w
  have X2 : Hid (∀ w, Calls Tryz.prog 79 #[.int .u64 4096, .int .u64 2097152, .int .u64 4096] w (RetIX (-1) w)) := fun w => context_c 4096 2097152 4096 (by decide) w
  have X3 : Hid (∀ w, Calls Tryz.prog 79 #[.int .u64 4096, .int .u64 2097156, .int .u64 4096] w (RetIX (-1) w)) := fun w => context_c 4096 2097156 4096 (by decide) w
  have HF := Lib.hid (retZ_same (val := .bool true) h.out)
  obtain ⟨y, hy⟩ : ∃ y, y = x % 4294967296 := ⟨_, rfl⟩
  have y1 : (x : Int) % 4294967296 = (y : Int) := by rw [hy]; omega
  have y2 : (x : Int).tmod 4294967296 = (y : Int) := by rw [Int.tmod_eq_emod_of_nonneg (by omega)]; exact y1
  have y32 : y < 4294967296 := by omega
  clear h hy y32 hx
  go_enter Tryz.func40, Tryz.ntmps40
  go_wp2_with fail
  refine (X1.out _).mono ?_; rintro e0 w1 ⟨rfl, q⟩; subst q
  go_wp2_with fail
  refine (X2.out _).mono ?_; rintro e0 w1 ⟨rfl, q⟩; subst q
  go_wp2_with fail
  refine (X3.out _).mono ?_; rintro e0 w1 ⟨rfl, q⟩; subst q
  go_wp2_with fail
  go_ret
  exact HF.out
set_option maxRecDepth 100000 in
theorem writer_pr1 (b e p t ce cp ct u v s : Nat) (S : St) (w : World) (h : Hid (IsRP w b e p t ce cp ct u v s S)) (x : Nat) (hx : Hid (x < 18446744073709551616)) : Calls Tryz.prog 40 #[.pointer (some ⟨b, 0, none⟩), .int .u64 4, .int .i64 4, .int .u64 x] w (RetZ (.bool true) b e p t ce cp ct (S.setPr 1 (x % 8)) w) := by
  have X1 : Hid (∀ w, Calls Tryz.prog 79 #[.int .u64 4, .int .u64 8192, .int .u64 128] w (RetIX (-1) w)) := fun w => context_c 4 8192 128 (by decide) w
  have X2 : Hid (∀ w, Calls Tryz.prog 79 #[.int .u64 4, .int .u64 2097152, .int .u64 4096] w (RetIX (-1) w)) := fun w => context_c 4 2097152 4096 (by decide) w
  have X3 : Hid (∀ w, Calls Tryz.prog 79 #[.int .u64 4, .int .u64 2097156, .int .u64 4096] w (RetIX (-1) w)) := fun w => context_c 4 2097156 4096 (by decide) w
  have k4 := h.out.raw.c4
  have k0 := (h.out.raw.pr 1 (by decide)).1
  have f0 := (h.out.raw.pr 1 (by decide)).2
  have hcp := h.out.raw.hcp
  have hct := h.out.raw.hct
  have hce := h.out.raw.hce
  obtain ⟨y, hy⟩ : ∃ y, y = x % 4294967296 := ⟨_, rfl⟩
  have y1 : (x : Int) % 4294967296 = (y : Int) := by rw [hy]; omega
  have y2 : (x : Int).tmod 4294967296 = (y : Int) := by rw [Int.tmod_eq_emod_of_nonneg (by omega)]; exact y1
  have y32 : y < 4294967296 := by omega
  obtain ⟨q, hq⟩ : ∃ q, q = x % 8 := ⟨_, rfl⟩
  have q1 : (y : Int) % 8 = (q : Int) := by rw [hq, hy]; omega
  have q2 : (y : Int).tmod 8 = (q : Int) := by rw [Int.tmod_eq_emod_of_nonneg (by omega)]; exact q1
  have HF : Hid (RetZ (.bool true) b e p t ce cp ct (S.setPr 1 (x % 8)) w (.returned (.bool true)) (w.setCell ⟨p, 1, none⟩ (.int .u64 (q : Nat)))) := by
    refine ⟨rfl, ⟨_, _, _, isRP_set h.out (by rw [← hq]; exact h.out.raw.setPr 1 q (by decide)) rfl rfl (h.out.ok.setPr 1 _ (Nat.mod_lt _ (by decide))) (by show set S.pr 1 (x % 8) 0 = 0; rw [set_ne2 _ _ _ _ (by decide)]; exact h.out.inv.2.1)⟩, cw_set b e p t w p 1 _ (by first | exact .inl rfl | exact .inr (.inl rfl) | exact .inr (.inr (.inl rfl)) | exact .inr (.inr (.inr rfl))) (by rw [k0]; rfl)⟩
  clear h hy y32 hx hcp hct hce hq
  go_enter Tryz.func40, Tryz.ntmps40
  go_wp2_with fail
  refine (X1.out _).mono ?_; rintro e0 w1 ⟨rfl, q⟩; subst q
  go_wp2_with fail
  refine (X2.out _).mono ?_; rintro e0 w1 ⟨rfl, q⟩; subst q
  go_wp2_with fail
  refine (X3.out _).mono ?_; rintro e0 w1 ⟨rfl, q⟩; subst q
  go_wp2_with fail
  go_ret
  exact HF.out
set_option maxRecDepth 100000 in
theorem writer_pr2 (b e p t ce cp ct u v s : Nat) (S : St) (w : World) (h : Hid (IsRP w b e p t ce cp ct u v s S)) (x : Nat) (hx : Hid (x < 18446744073709551616)) : Calls Tryz.prog 40 #[.pointer (some ⟨b, 0, none⟩), .int .u64 8, .int .i64 4, .int .u64 x] w (RetZ (.bool true) b e p t ce cp ct (S.setPr 2 (x % 8)) w) := by
  have X1 : Hid (∀ w, Calls Tryz.prog 79 #[.int .u64 8, .int .u64 8192, .int .u64 128] w (RetIX (-1) w)) := fun w => context_c 8 8192 128 (by decide) w
  have X2 : Hid (∀ w, Calls Tryz.prog 79 #[.int .u64 8, .int .u64 2097152, .int .u64 4096] w (RetIX (-1) w)) := fun w => context_c 8 2097152 4096 (by decide) w
  have X3 : Hid (∀ w, Calls Tryz.prog 79 #[.int .u64 8, .int .u64 2097156, .int .u64 4096] w (RetIX (-1) w)) := fun w => context_c 8 2097156 4096 (by decide) w
  have k4 := h.out.raw.c4
  have k0 := (h.out.raw.pr 2 (by decide)).1
  have f0 := (h.out.raw.pr 2 (by decide)).2
  have hcp := h.out.raw.hcp
  have hct := h.out.raw.hct
  have hce := h.out.raw.hce
  obtain ⟨y, hy⟩ : ∃ y, y = x % 4294967296 := ⟨_, rfl⟩
  have y1 : (x : Int) % 4294967296 = (y : Int) := by rw [hy]; omega
  have y2 : (x : Int).tmod 4294967296 = (y : Int) := by rw [Int.tmod_eq_emod_of_nonneg (by omega)]; exact y1
  have y32 : y < 4294967296 := by omega
  obtain ⟨q, hq⟩ : ∃ q, q = x % 8 := ⟨_, rfl⟩
  have q1 : (y : Int) % 8 = (q : Int) := by rw [hq, hy]; omega
  have q2 : (y : Int).tmod 8 = (q : Int) := by rw [Int.tmod_eq_emod_of_nonneg (by omega)]; exact q1
  have HF : Hid (RetZ (.bool true) b e p t ce cp ct (S.setPr 2 (x % 8)) w (.returned (.bool true)) (w.setCell ⟨p, 2, none⟩ (.int .u64 (q : Nat)))) := by
    refine ⟨rfl, ⟨_, _, _, isRP_set h.out (by rw [← hq]; exact h.out.raw.setPr 2 q (by decide)) rfl rfl (h.out.ok.setPr 2 _ (Nat.mod_lt _ (by decide))) (by show set S.pr 2 (x % 8) 0 = 0; rw [set_ne2 _ _ _ _ (by decide)]; exact h.out.inv.2.1)⟩, cw_set b e p t w p 2 _ (by first | exact .inl rfl | exact .inr (.inl rfl) | exact .inr (.inr (.inl rfl)) | exact .inr (.inr (.inr rfl))) (by rw [k0]; rfl)⟩
  clear h hy y32 hx hcp hct hce hq
  go_enter Tryz.func40, Tryz.ntmps40
  go_wp2_with fail
  refine (X1.out _).mono ?_; rintro e0 w1 ⟨rfl, q⟩; subst q
  go_wp2_with fail
  refine (X2.out _).mono ?_; rintro e0 w1 ⟨rfl, q⟩; subst q
  go_wp2_with fail
  refine (X3.out _).mono ?_; rintro e0 w1 ⟨rfl, q⟩; subst q
  go_wp2_with fail
  go_ret
  exact HF.out
set_option maxRecDepth 100000 in
theorem writer_pr3 (b e p t ce cp ct u v s : Nat) (S : St) (w : World) (h : Hid (IsRP w b e p t ce cp ct u v s S)) (x : Nat) (hx : Hid (x < 18446744073709551616)) : Calls Tryz.prog 40 #[.pointer (some ⟨b, 0, none⟩), .int .u64 12, .int .i64 4, .int .u64 x] w (RetZ (.bool true) b e p t ce cp ct (S.setPr 3 (x % 8)) w) := by
  have X1 : Hid (∀ w, Calls Tryz.prog 79 #[.int .u64 12, .int .u64 8192, .int .u64 128] w (RetIX (-1) w)) := fun w => context_c 12 8192 128 (by decide) w
  have X2 : Hid (∀ w, Calls Tryz.prog 79 #[.int .u64 12, .int .u64 2097152, .int .u64 4096] w (RetIX (-1) w)) := fun w => context_c 12 2097152 4096 (by decide) w
  have X3 : Hid (∀ w, Calls Tryz.prog 79 #[.int .u64 12, .int .u64 2097156, .int .u64 4096] w (RetIX (-1) w)) := fun w => context_c 12 2097156 4096 (by decide) w
  have k4 := h.out.raw.c4
  have k0 := (h.out.raw.pr 3 (by decide)).1
  have f0 := (h.out.raw.pr 3 (by decide)).2
  have hcp := h.out.raw.hcp
  have hct := h.out.raw.hct
  have hce := h.out.raw.hce
  obtain ⟨y, hy⟩ : ∃ y, y = x % 4294967296 := ⟨_, rfl⟩
  have y1 : (x : Int) % 4294967296 = (y : Int) := by rw [hy]; omega
  have y2 : (x : Int).tmod 4294967296 = (y : Int) := by rw [Int.tmod_eq_emod_of_nonneg (by omega)]; exact y1
  have y32 : y < 4294967296 := by omega
  obtain ⟨q, hq⟩ : ∃ q, q = x % 8 := ⟨_, rfl⟩
  have q1 : (y : Int) % 8 = (q : Int) := by rw [hq, hy]; omega
  have q2 : (y : Int).tmod 8 = (q : Int) := by rw [Int.tmod_eq_emod_of_nonneg (by omega)]; exact q1
  have HF : Hid (RetZ (.bool true) b e p t ce cp ct (S.setPr 3 (x % 8)) w (.returned (.bool true)) (w.setCell ⟨p, 3, none⟩ (.int .u64 (q : Nat)))) := by
    refine ⟨rfl, ⟨_, _, _, isRP_set h.out (by rw [← hq]; exact h.out.raw.setPr 3 q (by decide)) rfl rfl (h.out.ok.setPr 3 _ (Nat.mod_lt _ (by decide))) (by show set S.pr 3 (x % 8) 0 = 0; rw [set_ne2 _ _ _ _ (by decide)]; exact h.out.inv.2.1)⟩, cw_set b e p t w p 3 _ (by first | exact .inl rfl | exact .inr (.inl rfl) | exact .inr (.inr (.inl rfl)) | exact .inr (.inr (.inr rfl))) (by rw [k0]; rfl)⟩
  clear h hy y32 hx hcp hct hce hq
  go_enter Tryz.func40, Tryz.ntmps40
  go_wp2_with fail
  refine (X1.out _).mono ?_; rintro e0 w1 ⟨rfl, q⟩; subst q
  go_wp2_with fail
  refine (X2.out _).mono ?_; rintro e0 w1 ⟨rfl, q⟩; subst q
  go_wp2_with fail
  refine (X3.out _).mono ?_; rintro e0 w1 ⟨rfl, q⟩; subst q
  go_wp2_with fail
  go_ret
  exact HF.out
set_option maxRecDepth 100000 in
theorem writer_pr4 (b e p t ce cp ct u v s : Nat) (S : St) (w : World) (h : Hid (IsRP w b e p t ce cp ct u v s S)) (x : Nat) (hx : Hid (x < 18446744073709551616)) : Calls Tryz.prog 40 #[.pointer (some ⟨b, 0, none⟩), .int .u64 16, .int .i64 4, .int .u64 x] w (RetZ (.bool true) b e p t ce cp ct (S.setPr 4 (x % 8)) w) := by
  have X1 : Hid (∀ w, Calls Tryz.prog 79 #[.int .u64 16, .int .u64 8192, .int .u64 128] w (RetIX (-1) w)) := fun w => context_c 16 8192 128 (by decide) w
  have X2 : Hid (∀ w, Calls Tryz.prog 79 #[.int .u64 16, .int .u64 2097152, .int .u64 4096] w (RetIX (-1) w)) := fun w => context_c 16 2097152 4096 (by decide) w
  have X3 : Hid (∀ w, Calls Tryz.prog 79 #[.int .u64 16, .int .u64 2097156, .int .u64 4096] w (RetIX (-1) w)) := fun w => context_c 16 2097156 4096 (by decide) w
  have k4 := h.out.raw.c4
  have k0 := (h.out.raw.pr 4 (by decide)).1
  have f0 := (h.out.raw.pr 4 (by decide)).2
  have hcp := h.out.raw.hcp
  have hct := h.out.raw.hct
  have hce := h.out.raw.hce
  obtain ⟨y, hy⟩ : ∃ y, y = x % 4294967296 := ⟨_, rfl⟩
  have y1 : (x : Int) % 4294967296 = (y : Int) := by rw [hy]; omega
  have y2 : (x : Int).tmod 4294967296 = (y : Int) := by rw [Int.tmod_eq_emod_of_nonneg (by omega)]; exact y1
  have y32 : y < 4294967296 := by omega
  obtain ⟨q, hq⟩ : ∃ q, q = x % 8 := ⟨_, rfl⟩
  have q1 : (y : Int) % 8 = (q : Int) := by rw [hq, hy]; omega
  have q2 : (y : Int).tmod 8 = (q : Int) := by rw [Int.tmod_eq_emod_of_nonneg (by omega)]; exact q1
  have HF : Hid (RetZ (.bool true) b e p t ce cp ct (S.setPr 4 (x % 8)) w (.returned (.bool true)) (w.setCell ⟨p, 4, none⟩ (.int .u64 (q : Nat)))) := by
    refine ⟨rfl, ⟨_, _, _, isRP_set h.out (by rw [← hq]; exact h.out.raw.setPr 4 q (by decide)) rfl rfl (h.out.ok.setPr 4 _ (Nat.mod_lt _ (by decide))) (by show set S.pr 4 (x % 8) 0 = 0; rw [set_ne2 _ _ _ _ (by decide)]; exact h.out.inv.2.1)⟩, cw_set b e p t w p 4 _ (by first | exact .inl rfl | exact .inr (.inl rfl) | exact .inr (.inr (.inl rfl)) | exact .inr (.inr (.inr rfl))) (by rw [k0]; rfl)⟩
  clear h hy y32 hx hcp hct hce hq
  go_enter Tryz.func40, Tryz.ntmps40
  go_wp2_with fail
  refine (X1.out _).mono ?_; rintro e0 w1 ⟨rfl, q⟩; subst q
  go_wp2_with fail
  refine (X2.out _).mono ?_; rintro e0 w1 ⟨rfl, q⟩; subst q
  go_wp2_with fail
  refine (X3.out _).mono ?_; rintro e0 w1 ⟨rfl, q⟩; subst q
  go_wp2_with fail
  go_ret
  exact HF.out
set_option maxRecDepth 100000 in
theorem writer_pr5 (b e p t ce cp ct u v s : Nat) (S : St) (w : World) (h : Hid (IsRP w b e p t ce cp ct u v s S)) (x : Nat) (hx : Hid (x < 18446744073709551616)) : Calls Tryz.prog 40 #[.pointer (some ⟨b, 0, none⟩), .int .u64 20, .int .i64 4, .int .u64 x] w (RetZ (.bool true) b e p t ce cp ct (S.setPr 5 (x % 8)) w) := by
  have X1 : Hid (∀ w, Calls Tryz.prog 79 #[.int .u64 20, .int .u64 8192, .int .u64 128] w (RetIX (-1) w)) := fun w => context_c 20 8192 128 (by decide) w
  have X2 : Hid (∀ w, Calls Tryz.prog 79 #[.int .u64 20, .int .u64 2097152, .int .u64 4096] w (RetIX (-1) w)) := fun w => context_c 20 2097152 4096 (by decide) w
  have X3 : Hid (∀ w, Calls Tryz.prog 79 #[.int .u64 20, .int .u64 2097156, .int .u64 4096] w (RetIX (-1) w)) := fun w => context_c 20 2097156 4096 (by decide) w
  have k4 := h.out.raw.c4
  have k0 := (h.out.raw.pr 5 (by decide)).1
  have f0 := (h.out.raw.pr 5 (by decide)).2
  have hcp := h.out.raw.hcp
  have hct := h.out.raw.hct
  have hce := h.out.raw.hce
  obtain ⟨y, hy⟩ : ∃ y, y = x % 4294967296 := ⟨_, rfl⟩
  have y1 : (x : Int) % 4294967296 = (y : Int) := by rw [hy]; omega
  have y2 : (x : Int).tmod 4294967296 = (y : Int) := by rw [Int.tmod_eq_emod_of_nonneg (by omega)]; exact y1
  have y32 : y < 4294967296 := by omega
  obtain ⟨q, hq⟩ : ∃ q, q = x % 8 := ⟨_, rfl⟩
  have q1 : (y : Int) % 8 = (q : Int) := by rw [hq, hy]; omega
  have q2 : (y : Int).tmod 8 = (q : Int) := by rw [Int.tmod_eq_emod_of_nonneg (by omega)]; exact q1
  have HF : Hid (RetZ (.bool true) b e p t ce cp ct (S.setPr 5 (x % 8)) w (.returned (.bool true)) (w.setCell ⟨p, 5, none⟩ (.int .u64 (q : Nat)))) := by
    refine ⟨rfl, ⟨_, _, _, isRP_set h.out (by rw [← hq]; exact h.out.raw.setPr 5 q (by decide)) rfl rfl (h.out.ok.setPr 5 _ (Nat.mod_lt _ (by decide))) (by show set S.pr 5 (x % 8) 0 = 0; rw [set_ne2 _ _ _ _ (by decide)]; exact h.out.inv.2.1)⟩, cw_set b e p t w p 5 _ (by first | exact .inl rfl | exact .inr (.inl rfl) | exact .inr (.inr (.inl rfl)) | exact .inr (.inr (.inr rfl))) (by rw [k0]; rfl)⟩
  clear h hy y32 hx hcp hct hce hq
  go_enter Tryz.func40, Tryz.ntmps40
  go_wp2_with fail
  refine (X1.out _).mono ?_; rintro e0 w1 ⟨rfl, q⟩; subst q
  go_wp2_with fail
  refine (X2.out _).mono ?_; rintro e0 w1 ⟨rfl, q⟩; subst q
  go_wp2_with fail
  refine (X3.out _).mono ?_; rintro e0 w1 ⟨rfl, q⟩; subst q
  go_wp2_with fail
  go_ret
  exact HF.out
set_option maxRecDepth 100000 in
theorem writer_pr6 (b e p t ce cp ct u v s : Nat) (S : St) (w : World) (h : Hid (IsRP w b e p t ce cp ct u v s S)) (x : Nat) (hx : Hid (x < 18446744073709551616)) : Calls Tryz.prog 40 #[.pointer (some ⟨b, 0, none⟩), .int .u64 24, .int .i64 4, .int .u64 x] w (RetZ (.bool true) b e p t ce cp ct (S.setPr 6 (x % 8)) w) := by
  have X1 : Hid (∀ w, Calls Tryz.prog 79 #[.int .u64 24, .int .u64 8192, .int .u64 128] w (RetIX (-1) w)) := fun w => context_c 24 8192 128 (by decide) w
  have X2 : Hid (∀ w, Calls Tryz.prog 79 #[.int .u64 24, .int .u64 2097152, .int .u64 4096] w (RetIX (-1) w)) := fun w => context_c 24 2097152 4096 (by decide) w
  have X3 : Hid (∀ w, Calls Tryz.prog 79 #[.int .u64 24, .int .u64 2097156, .int .u64 4096] w (RetIX (-1) w)) := fun w => context_c 24 2097156 4096 (by decide) w
  have k4 := h.out.raw.c4
  have k0 := (h.out.raw.pr 6 (by decide)).1
  have f0 := (h.out.raw.pr 6 (by decide)).2
  have hcp := h.out.raw.hcp
  have hct := h.out.raw.hct
  have hce := h.out.raw.hce
  obtain ⟨y, hy⟩ : ∃ y, y = x % 4294967296 := ⟨_, rfl⟩
  have y1 : (x : Int) % 4294967296 = (y : Int) := by rw [hy]; omega
  have y2 : (x : Int).tmod 4294967296 = (y : Int) := by rw [Int.tmod_eq_emod_of_nonneg (by omega)]; exact y1
  have y32 : y < 4294967296 := by omega
  obtain ⟨q, hq⟩ : ∃ q, q = x % 8 := ⟨_, rfl⟩
  have q1 : (y : Int) % 8 = (q : Int) := by rw [hq, hy]; omega
  have q2 : (y : Int).tmod 8 = (q : Int) := by rw [Int.tmod_eq_emod_of_nonneg (by omega)]; exact q1
  have HF : Hid (RetZ (.bool true) b e p t ce cp ct (S.setPr 6 (x % 8)) w (.returned (.bool true)) (w.setCell ⟨p, 6, none⟩ (.int .u64 (q : Nat)))) := by
    refine ⟨rfl, ⟨_, _, _, isRP_set h.out (by rw [← hq]; exact h.out.raw.setPr 6 q (by decide)) rfl rfl (h.out.ok.setPr 6 _ (Nat.mod_lt _ (by decide))) (by show set S.pr 6 (x % 8) 0 = 0; rw [set_ne2 _ _ _ _ (by decide)]; exact h.out.inv.2.1)⟩, cw_set b e p t w p 6 _ (by first | exact .inl rfl | exact .inr (.inl rfl) | exact .inr (.inr (.inl rfl)) | exact .inr (.inr (.inr rfl))) (by rw [k0]; rfl)⟩
  clear h hy y32 hx hcp hct hce hq
  go_enter Tryz.func40, Tryz.ntmps40
  go_wp2_with fail
  refine (X1.out _).mono ?_; rintro e0 w1 ⟨rfl, q⟩; subst q
  go_wp2_with fail
  refine (X2.out _).mono ?_; rintro e0 w1 ⟨rfl, q⟩; subst q
  go_wp2_with fail
  refine (X3.out _).mono ?_; rintro e0 w1 ⟨rfl, q⟩; subst q
  go_wp2_with fail
  go_ret
  exact HF.out
set_option maxRecDepth 100000 in
theorem writer_pr7 (b e p t ce cp ct u v s : Nat) (S : St) (w : World) (h : Hid (IsRP w b e p t ce cp ct u v s S)) (x : Nat) (hx : Hid (x < 18446744073709551616)) : Calls Tryz.prog 40 #[.pointer (some ⟨b, 0, none⟩), .int .u64 28, .int .i64 4, .int .u64 x] w (RetZ (.bool true) b e p t ce cp ct (S.setPr 7 (x % 8)) w) := by
  have X1 : Hid (∀ w, Calls Tryz.prog 79 #[.int .u64 28, .int .u64 8192, .int .u64 128] w (RetIX (-1) w)) := fun w => context_c 28 8192 128 (by decide) w
  have X2 : Hid (∀ w, Calls Tryz.prog 79 #[.int .u64 28, .int .u64 2097152, .int .u64 4096] w (RetIX (-1) w)) := fun w => context_c 28 2097152 4096 (by decide) w
  have X3 : Hid (∀ w, Calls Tryz.prog 79 #[.int .u64 28, .int .u64 2097156, .int .u64 4096] w (RetIX (-1) w)) := fun w => context_c 28 2097156 4096 (by decide) w
  have k4 := h.out.raw.c4
  have k0 := (h.out.raw.pr 7 (by decide)).1
  have f0 := (h.out.raw.pr 7 (by decide)).2
  have hcp := h.out.raw.hcp
  have hct := h.out.raw.hct
  have hce := h.out.raw.hce
  obtain ⟨y, hy⟩ : ∃ y, y = x % 4294967296 := ⟨_, rfl⟩
  have y1 : (x : Int) % 4294967296 = (y : Int) := by rw [hy]; omega
  have y2 : (x : Int).tmod 4294967296 = (y : Int) := by rw [Int.tmod_eq_emod_of_nonneg (by omega)]; exact y1
  have y32 : y < 4294967296 := by omega
  obtain ⟨q, hq⟩ : ∃ q, q = x % 8 := ⟨_, rfl⟩
  have q1 : (y : Int) % 8 = (q : Int) := by rw [hq, hy]; omega
  have q2 : (y : Int).tmod 8 = (q : Int) := by rw [Int.tmod_eq_emod_of_nonneg (by omega)]; exact q1
  have HF : Hid (RetZ (.bool true) b e p t ce cp ct (S.setPr 7 (x % 8)) w (.returned (.bool true)) (w.setCell ⟨p, 7, none⟩ (.int .u64 (q : Nat)))) := by
    refine ⟨rfl, ⟨_, _, _, isRP_set h.out (by rw [← hq]; exact h.out.raw.setPr 7 q (by decide)) rfl rfl (h.out.ok.setPr 7 _ (Nat.mod_lt _ (by decide))) (by show set S.pr 7 (x % 8) 0 = 0; rw [set_ne2 _ _ _ _ (by decide)]; exact h.out.inv.2.1)⟩, cw_set b e p t w p 7 _ (by first | exact .inl rfl | exact .inr (.inl rfl) | exact .inr (.inr (.inl rfl)) | exact .inr (.inr (.inr rfl))) (by rw [k0]; rfl)⟩
  clear h hy y32 hx hcp hct hce hq
  go_enter Tryz.func40, Tryz.ntmps40
  go_wp2_with fail
  refine (X1.out _).mono ?_; rintro e0 w1 ⟨rfl, q⟩; subst q
  go_wp2_with fail
  refine (X2.out _).mono ?_; rintro e0 w1 ⟨rfl, q⟩; subst q
  go_wp2_with fail
  refine (X3.out _).mono ?_; rintro e0 w1 ⟨rfl, q⟩; subst q
  go_wp2_with fail
  go_ret
  exact HF.out
set_option maxRecDepth 100000 in
theorem writer_pr8 (b e p t ce cp ct u v s : Nat) (S : St) (w : World) (h : Hid (IsRP w b e p t ce cp ct u v s S)) (x : Nat) (hx : Hid (x < 18446744073709551616)) : Calls Tryz.prog 40 #[.pointer (some ⟨b, 0, none⟩), .int .u64 32, .int .i64 4, .int .u64 x] w (RetZ (.bool true) b e p t ce cp ct (S.setPr 8 (x % 8)) w) := by
  have X1 : Hid (∀ w, Calls Tryz.prog 79 #[.int .u64 32, .int .u64 8192, .int .u64 128] w (RetIX (-1) w)) := fun w => context_c 32 8192 128 (by decide) w
  have X2 : Hid (∀ w, Calls Tryz.prog 79 #[.int .u64 32, .int .u64 2097152, .int .u64 4096] w (RetIX (-1) w)) := fun w => context_c 32 2097152 4096 (by decide) w
  have X3 : Hid (∀ w, Calls Tryz.prog 79 #[.int .u64 32, .int .u64 2097156, .int .u64 4096] w (RetIX (-1) w)) := fun w => context_c 32 2097156 4096 (by decide) w
  have k4 := h.out.raw.c4
  have k0 := (h.out.raw.pr 8 (by decide)).1
  have f0 := (h.out.raw.pr 8 (by decide)).2
  have hcp := h.out.raw.hcp
  have hct := h.out.raw.hct
  have hce := h.out.raw.hce
  obtain ⟨y, hy⟩ : ∃ y, y = x % 4294967296 := ⟨_, rfl⟩
  have y1 : (x : Int) % 4294967296 = (y : Int) := by rw [hy]; omega
  have y2 : (x : Int).tmod 4294967296 = (y : Int) := by rw [Int.tmod_eq_emod_of_nonneg (by omega)]; exact y1
  have y32 : y < 4294967296 := by omega
  obtain ⟨q, hq⟩ : ∃ q, q = x % 8 := ⟨_, rfl⟩
  have q1 : (y : Int) % 8 = (q : Int) := by rw [hq, hy]; omega
  have q2 : (y : Int).tmod 8 = (q : Int) := by rw [Int.tmod_eq_emod_of_nonneg (by omega)]; exact q1
  have HF : Hid (RetZ (.bool true) b e p t ce cp ct (S.setPr 8 (x % 8)) w (.returned (.bool true)) (w.setCell ⟨p, 8, none⟩ (.int .u64 (q : Nat)))) := by
    refine ⟨rfl, ⟨_, _, _, isRP_set h.out (by rw [← hq]; exact h.out.raw.setPr 8 q (by decide)) rfl rfl (h.out.ok.setPr 8 _ (Nat.mod_lt _ (by decide))) (by show set S.pr 8 (x % 8) 0 = 0; rw [set_ne2 _ _ _ _ (by decide)]; exact h.out.inv.2.1)⟩, cw_set b e p t w p 8 _ (by first | exact .inl rfl | exact .inr (.inl rfl) | exact .inr (.inr (.inl rfl)) | exact .inr (.inr (.inr rfl))) (by rw [k0]; rfl)⟩
  clear h hy y32 hx hcp hct hce hq
  go_enter Tryz.func40, Tryz.ntmps40
  go_wp2_with fail
  refine (X1.out _).mono ?_; rintro e0 w1 ⟨rfl, q⟩; subst q
  go_wp2_with fail
  refine (X2.out _).mono ?_; rintro e0 w1 ⟨rfl, q⟩; subst q
  go_wp2_with fail
  refine (X3.out _).mono ?_; rintro e0 w1 ⟨rfl, q⟩; subst q
  go_wp2_with fail
  go_ret
  exact HF.out
set_option maxRecDepth 100000 in
theorem writer_en0 (b e p t ce cp ct u v s : Nat) (S : St) (w : World) (h : Hid (IsRP w b e p t ce cp ct u v s S)) (x : Nat) (hx : Hid (x < 18446744073709551616)) : Calls Tryz.prog 40 #[.pointer (some ⟨b, 0, none⟩), .int .u64 8192, .int .i64 4, .int .u64 x] w (RetZ (.bool true) b e p t ce cp ct (S.setEn 0 (x &&& 510)) w) := by
  have X1 : Hid (∀ w, Calls Tryz.prog 79 #[.int .u64 8192, .int .u64 8192, .int .u64 128] w (RetIX 0 w)) := fun w => context_c 8192 8192 128 (by decide) w
  have X2 : Hid (∀ w, Calls Tryz.prog 79 #[.int .u64 8192, .int .u64 2097152, .int .u64 4096] w (RetIX (-1) w)) := fun w => context_c 8192 2097152 4096 (by decide) w
  have X3 : Hid (∀ w, Calls Tryz.prog 79 #[.int .u64 8192, .int .u64 2097156, .int .u64 4096] w (RetIX (-1) w)) := fun w => context_c 8192 2097156 4096 (by decide) w
  have k4 := h.out.raw.c3
  have k0 := (h.out.raw.en 0 (by decide)).1
  have f0 := (h.out.raw.en 0 (by decide)).2
  have hcp := h.out.raw.hcp
  have hct := h.out.raw.hct
  have hce := h.out.raw.hce
  obtain ⟨y, hy⟩ : ∃ y, y = x % 4294967296 := ⟨_, rfl⟩
  have y1 : (x : Int) % 4294967296 = (y : Int) := by rw [hy]; omega
  have y2 : (x : Int).tmod 4294967296 = (y : Int) := by rw [Int.tmod_eq_emod_of_nonneg (by omega)]; exact y1
  have y32 : y < 4294967296 := by omega
  obtain ⟨q, hq⟩ : ∃ q, q = x &&& 510 := ⟨_, rfl⟩
  have q1 : bits .and .u64 (y : Int) 510 = (q : Int) := by rw [mask510 y y32, hq, hy, mod32_510]
  have HF : Hid (RetZ (.bool true) b e p t ce cp ct (S.setEn 0 (x &&& 510)) w (.returned (.bool true)) (w.setCell ⟨e, 0, none⟩ (.int .u64 (q : Nat)))) := by
    refine ⟨rfl, ⟨_, _, _, isRP_set h.out (by rw [← hq]; exact h.out.raw.setEn 0 q (by decide)) rfl rfl (h.out.ok.setEn 0 _ (Nat.lt_of_le_of_lt Nat.and_le_right (by decide))) h.out.inv.2.1⟩, cw_set b e p t w e 0 _ (by first | exact .inl rfl | exact .inr (.inl rfl) | exact .inr (.inr (.inl rfl)) | exact .inr (.inr (.inr rfl))) (by rw [k0]; rfl)⟩
  clear h hy y32 hx hcp hct hce hq
  go_enter Tryz.func40, Tryz.ntmps40
  go_wp2_with fail
  refine (X1.out _).mono ?_; rintro e0 w1 ⟨rfl, q⟩; subst q
  go_wp2_with fail
  refine (X2.out _).mono ?_; rintro e0 w1 ⟨rfl, q⟩; subst q
  go_wp2_with fail
  refine (X3.out _).mono ?_; rintro e0 w1 ⟨rfl, q⟩; subst q
  go_wp2_with fail
  go_ret
  exact HF.out
set_option maxRecDepth 100000 in
theorem writer_th0 (b e p t ce cp ct u v s : Nat) (S : St) (w : World) (h : Hid (IsRP w b e p t ce cp ct u v s S)) (x : Nat) (hx : Hid (x < 18446744073709551616)) : Calls Tryz.prog 40 #[.pointer (some ⟨b, 0, none⟩), .int .u64 2097152, .int .i64 4, .int .u64 x] w (RetZ (.bool true) b e p t ce cp ct (S.setTh 0 (x % 8)) w) := by
  have X1 : Hid (∀ w, Calls Tryz.prog 79 #[.int .u64 2097152, .int .u64 8192, .int .u64 128] w (RetIX (-1) w)) := fun w => context_c 2097152 8192 128 (by decide) w
  have X2 : Hid (∀ w, Calls Tryz.prog 79 #[.int .u64 2097152, .int .u64 2097152, .int .u64 4096] w (RetIX 0 w)) := fun w => context_c 2097152 2097152 4096 (by decide) w
  have X3 : Hid (∀ w, Calls Tryz.prog 79 #[.int .u64 2097152, .int .u64 2097156, .int .u64 4096] w (RetIX (-1) w)) := fun w => context_c 2097152 2097156 4096 (by decide) w
  have k4 := h.out.raw.c5
  have k0 := (h.out.raw.th 0 (by decide)).1
  have f0 := (h.out.raw.th 0 (by decide)).2
  have hcp := h.out.raw.hcp
  have hct := h.out.raw.hct
  have hce := h.out.raw.hce
  obtain ⟨y, hy⟩ : ∃ y, y = x % 4294967296 := ⟨_, rfl⟩
  have y1 : (x : Int) % 4294967296 = (y : Int) := by rw [hy]; omega
  have y2 : (x : Int).tmod 4294967296 = (y : Int) := by rw [Int.tmod_eq_emod_of_nonneg (by omega)]; exact y1
  have y32 : y < 4294967296 := by omega
  obtain ⟨q, hq⟩ : ∃ q, q = x % 8 := ⟨_, rfl⟩
  have q1 : (y : Int) % 8 = (q : Int) := by rw [hq, hy]; omega
  have q2 : (y : Int).tmod 8 = (q : Int) := by rw [Int.tmod_eq_emod_of_nonneg (by omega)]; exact q1
  have HF : Hid (RetZ (.bool true) b e p t ce cp ct (S.setTh 0 (x % 8)) w (.returned (.bool true)) (w.setCell ⟨t, 0, none⟩ (.int .u64 (q : Nat)))) := by
    refine ⟨rfl, ⟨_, _, _, isRP_set h.out (by rw [← hq]; exact h.out.raw.setTh 0 q (by decide)) rfl rfl (h.out.ok.setTh 0 _ (Nat.mod_lt _ (by decide))) h.out.inv.2.1⟩, cw_set b e p t w t 0 _ (by first | exact .inl rfl | exact .inr (.inl rfl) | exact .inr (.inr (.inl rfl)) | exact .inr (.inr (.inr rfl))) (by rw [k0]; rfl)⟩
  clear h hy y32 hx hcp hct hce hq
  go_enter Tryz.func40, Tryz.ntmps40
  go_wp2_with fail
  refine (X1.out _).mono ?_; rintro e0 w1 ⟨rfl, q⟩; subst q
  go_wp2_with fail
  refine (X2.out _).mono ?_; rintro e0 w1 ⟨rfl, q⟩; subst q
  go_wp2_with fail
  refine (X3.out _).mono ?_; rintro e0 w1 ⟨rfl, q⟩; subst q
  go_wp2_with fail
  go_ret
  exact HF.out
set_option maxRecDepth 100000 in
theorem writer_en1 (b e p t ce cp ct u v s : Nat) (S : St) (w : World) (h : Hid (IsRP w b e p t ce cp ct u v s S)) (x : Nat) (hx : Hid (x < 18446744073709551616)) : Calls Tryz.prog 40 #[.pointer (some ⟨b, 0, none⟩), .int .u64 8320, .int .i64 4, .int .u64 x] w (RetZ (.bool true) b e p t ce cp ct (S.setEn 1 (x &&& 510)) w) := by
  have X1 : Hid (∀ w, Calls Tryz.prog 79 #[.int .u64 8320, .int .u64 8192, .int .u64 128] w (RetIX 1 w)) := fun w => context_c 8320 8192 128 (by decide) w
  have X2 : Hid (∀ w, Calls Tryz.prog 79 #[.int .u64 8320, .int .u64 2097152, .int .u64 4096] w (RetIX (-1) w)) := fun w => context_c 8320 2097152 4096 (by decide) w
  have X3 : Hid (∀ w, Calls Tryz.prog 79 #[.int .u64 8320, .int .u64 2097156, .int .u64 4096] w (RetIX (-1) w)) := fun w => context_c 8320 2097156 4096 (by decide) w
  have k4 := h.out.raw.c3
  have k0 := (h.out.raw.en 1 (by decide)).1
  have f0 := (h.out.raw.en 1 (by decide)).2
  have hcp := h.out.raw.hcp
  have hct := h.out.raw.hct
  have hce := h.out.raw.hce
  obtain ⟨y, hy⟩ : ∃ y, y = x % 4294967296 := ⟨_, rfl⟩
  have y1 : (x : Int) % 4294967296 = (y : Int) := by rw [hy]; omega
  have y2 : (x : Int).tmod 4294967296 = (y : Int) := by rw [Int.tmod_eq_emod_of_nonneg (by omega)]; exact y1
  have y32 : y < 4294967296 := by omega
  obtain ⟨q, hq⟩ : ∃ q, q = x &&& 510 := ⟨_, rfl⟩
  have q1 : bits .and .u64 (y : Int) 510 = (q : Int) := by rw [mask510 y y32, hq, hy, mod32_510]
  have HF : Hid (RetZ (.bool true) b e p t ce cp ct (S.setEn 1 (x &&& 510)) w (.returned (.bool true)) (w.setCell ⟨e, 1, none⟩ (.int .u64 (q : Nat)))) := by
    refine ⟨rfl, ⟨_, _, _, isRP_set h.out (by rw [← hq]; exact h.out.raw.setEn 1 q (by decide)) rfl rfl (h.out.ok.setEn 1 _ (Nat.lt_of_le_of_lt Nat.and_le_right (by decide))) h.out.inv.2.1⟩, cw_set b e p t w e 1 _ (by first | exact .inl rfl | exact .inr (.inl rfl) | exact .inr (.inr (.inl rfl)) | exact .inr (.inr (.inr rfl))) (by rw [k0]; rfl)⟩
  clear h hy y32 hx hcp hct hce hq
  go_enter Tryz.func40, Tryz.ntmps40
  go_wp2_with fail
  refine (X1.out _).mono ?_; rintro e0 w1 ⟨rfl, q⟩; subst q
  go_wp2_with fail
  refine (X2.out _).mono ?_; rintro e0 w1 ⟨rfl, q⟩; subst q
  go_wp2_with fail
  refine (X3.out _).mono ?_; rintro e0 w1 ⟨rfl, q⟩; subst q
  go_wp2_with fail
  go_ret
  exact HF.out
set_option maxRecDepth 100000 in
theorem writer_th1 (b e p t ce cp ct u v s : Nat) (S : St) (w : World) (h : Hid (IsRP w b e p t ce cp ct u v s S)) (x : Nat) (hx : Hid (x < 18446744073709551616)) : Calls Tryz.prog 40 #[.pointer (some ⟨b, 0, none⟩), .int .u64 2101248, .int .i64 4, .int .u64 x] w (RetZ (.bool true) b e p t ce cp ct (S.setTh 1 (x % 8)) w) := by
  have X1 : Hid (∀ w, Calls Tryz.prog 79 #[.int .u64 2101248, .int .u64 8192, .int .u64 128] w (RetIX (-1) w)) := fun w => context_c 2101248 8192 128 (by decide) w
  have X2 : Hid (∀ w, Calls Tryz.prog 79 #[.int .u64 2101248, .int .u64 2097152, .int .u64 4096] w (RetIX 1 w)) := fun w => context_c 2101248 2097152 4096 (by decide) w
  have X3 : Hid (∀ w, Calls Tryz.prog 79 #[.int .u64 2101248, .int .u64 2097156, .int .u64 4096] w (RetIX (-1) w)) := fun w => context_c 2101248 2097156 4096 (by decide) w
  have k4 := h.out.raw.c5
  have k0 := (h.out.raw.th 1 (by decide)).1
  have f0 := (h.out.raw.th 1 (by decide)).2
  have hcp := h.out.raw.hcp
  have hct := h.out.raw.hct
  have hce := h.out.raw.hce
  obtain ⟨y, hy⟩ : ∃ y, y = x % 4294967296 := ⟨_, rfl⟩
  have y1 : (x : Int) % 4294967296 = (y : Int) := by rw [hy]; omega
  have y2 : (x : Int).tmod 4294967296 = (y : Int) := by rw [Int.tmod_eq_emod_of_nonneg (by omega)]; exact y1
  have y32 : y < 4294967296 := by omega
  obtain ⟨q, hq⟩ : ∃ q, q = x % 8 := ⟨_, rfl⟩
  have q1 : (y : Int) % 8 = (q : Int) := by rw [hq, hy]; omega
  have q2 : (y : Int).tmod 8 = (q : Int) := by rw [Int.tmod_eq_emod_of_nonneg (by omega)]; exact q1
  have HF : Hid (RetZ (.bool true) b e p t ce cp ct (S.setTh 1 (x % 8)) w (.returned (.bool true)) (w.setCell ⟨t, 1, none⟩ (.int .u64 (q : Nat)))) := by
    refine ⟨rfl, ⟨_, _, _, isRP_set h.out (by rw [← hq]; exact h.out.raw.setTh 1 q (by decide)) rfl rfl (h.out.ok.setTh 1 _ (Nat.mod_lt _ (by decide))) h.out.inv.2.1⟩, cw_set b e p t w t 1 _ (by first | exact .inl rfl | exact .inr (.inl rfl) | exact .inr (.inr (.inl rfl)) | exact .inr (.inr (.inr rfl))) (by rw [k0]; rfl)⟩
  clear h hy y32 hx hcp hct hce hq
  go_enter Tryz.func40, Tryz.ntmps40
  go_wp2_with fail
  refine (X1.out _).mono ?_; rintro e0 w1 ⟨rfl, q⟩; subst q
  go_wp2_with fail
  refine (X2.out _).mono ?_; rintro e0 w1 ⟨rfl, q⟩; subst q
  go_wp2_with fail
  refine (X3.out _).mono ?_; rintro e0 w1 ⟨rfl, q⟩; subst q
  go_wp2_with fail
  go_ret
  exact HF.out
set_option maxRecDepth 100000 in
theorem writer_no0 (b e p t ce cp ct u v s : Nat) (S : St) (w : World) (h : Hid (IsRP w b e p t ce cp ct u v s S)) (a : Nat) (x : Nat) (hx : Hid (x < 18446744073709551616)) (hno : ¬ (a ≤ 32 ∧ a % 4 = 0) ∧ a ≠ 4096 ∧ a ≠ 8192 ∧ a ≠ 8320 ∧ a ≠ 2097152 ∧ a ≠ 2101248 ∧ a ≠ 2097156 ∧ a ≠ 2101252) (hl : a ≤ 32) : Calls Tryz.prog 40 #[.pointer (some ⟨b, 0, none⟩), .int .u64 a, .int .i64 4, .int .u64 x] w (RetZ (.bool false) b e p t ce cp ct S w) := by
  have X1 := Lib.hid (fun w => context_c a 8192 128 (by decide) w)
  have X2 := Lib.hid (fun w => context_c a 2097152 4096 (by decide) w)
  have X3 := Lib.hid (fun w => context_c a 2097156 4096 (by decide) w)
  obtain ⟨h1, h2, h3, h4, h5, h6, h7, h8⟩ := hno
  rw [show ctxF a 8192 128 = -1 by unfold ctxF; rw [if_neg h3, if_neg h4]] at X1
  rw [show ctxF a 2097152 4096 = -1 by unfold ctxF; rw [if_neg h5, if_neg h6]] at X2
  rw [show ctxF a 2097156 4096 = -1 by unfold ctxF; rw [if_neg h7, if_neg h8]] at X3
  have l1 : (a : Int) ≤ 32 := by omega
  have m0 : ¬ a % 4 = 0 := fun q => h1 ⟨hl, q⟩
  have m1 : (((a : Int) % 4) == 0) = false := by rw [beq_eq_false_iff_ne]; omega
  have m2 : decide ((a : Int) % 4 = 0) = false := decide_eq_false (by omega)
  have m3 : ((a : Int).tmod 4 == 0) = false := by rw [beq_eq_false_iff_ne, Int.tmod_eq_emod_of_nonneg (by omega)]; omega
  have z0 : ((a : Int) == 0) = false := by rw [beq_eq_false_iff_ne]; intro q; apply h1; omega
  have d2 : ((a : Int) == 4096) = false := by rw [beq_eq_false_iff_ne]; omega
  have HF := Lib.hid (retZ_same (val := .bool false) h.out)
  clear h h1 h2 h3 h4 h5 h6 h7 h8 hl m0
  go_enter Tryz.func40, Tryz.ntmps40
  go_wp2_with fail
  refine (X1.out _).mono ?_; rintro e0 w1 ⟨rfl, q⟩; subst q
  go_wp2_with fail
  refine (X2.out _).mono ?_; rintro e0 w1 ⟨rfl, q⟩; subst q
  go_wp2_with fail
  refine (X3.out _).mono ?_; rintro e0 w1 ⟨rfl, q⟩; subst q
  go_wp2_with fail
  go_ret
  exact HF.out
set_option maxRecDepth 100000 in
theorem writer_no1 (b e p t ce cp ct u v s : Nat) (S : St) (w : World) (h : Hid (IsRP w b e p t ce cp ct u v s S)) (a : Nat) (x : Nat) (hx : Hid (x < 18446744073709551616)) (hno : ¬ (a ≤ 32 ∧ a % 4 = 0) ∧ a ≠ 4096 ∧ a ≠ 8192 ∧ a ≠ 8320 ∧ a ≠ 2097152 ∧ a ≠ 2101248 ∧ a ≠ 2097156 ∧ a ≠ 2101252) (hl : ¬ a ≤ 32) : Calls Tryz.prog 40 #[.pointer (some ⟨b, 0, none⟩), .int .u64 a, .int .i64 4, .int .u64 x] w (RetZ (.bool false) b e p t ce cp ct S w) := by
  have X1 := Lib.hid (fun w => context_c a 8192 128 (by decide) w)
  have X2 := Lib.hid (fun w => context_c a 2097152 4096 (by decide) w)
  have X3 := Lib.hid (fun w => context_c a 2097156 4096 (by decide) w)
  obtain ⟨h1, h2, h3, h4, h5, h6, h7, h8⟩ := hno
  rw [show ctxF a 8192 128 = -1 by unfold ctxF; rw [if_neg h3, if_neg h4]] at X1
  rw [show ctxF a 2097152 4096 = -1 by unfold ctxF; rw [if_neg h5, if_neg h6]] at X2
  rw [show ctxF a 2097156 4096 = -1 by unfold ctxF; rw [if_neg h7, if_neg h8]] at X3
  have l1 : ¬ (a : Int) ≤ 32 := by omega
  have z0 : ((a : Int) == 0) = false := by rw [beq_eq_false_iff_ne]; intro q; apply h1; omega
  have d2 : ((a : Int) == 4096) = false := by rw [beq_eq_false_iff_ne]; omega
  have HF := Lib.hid (retZ_same (val := .bool false) h.out)
  clear h h1 h2 h3 h4 h5 h6 h7 h8 hl
  go_enter Tryz.func40, Tryz.ntmps40
  go_wp2_with fail
  refine (X1.out _).mono ?_; rintro e0 w1 ⟨rfl, q⟩; subst q
  go_wp2_with fail
  refine (X2.out _).mono ?_; rintro e0 w1 ⟨rfl, q⟩; subst q
  go_wp2_with fail
  refine (X3.out _).mono ?_; rintro e0 w1 ⟨rfl, q⟩; subst q
  go_wp2_with fail
  go_ret
  exact HF.out
set_option maxRecDepth 100000 in
theorem writer_size (b e p t ce cp ct u v s : Nat) (S : St) (w : World) (h : Hid (IsRP w b e p t ce cp ct u v s S)) (a : Nat) (x : Nat) (hx : Hid (x < 18446744073709551616)) (z : Int) (hz : z ≠ 4) : Calls Tryz.prog 40 #[.pointer (some ⟨b, 0, none⟩), .int .u64 a, .int .i64 z, .int .u64 x] w (RetZ (.bool false) b e p t ce cp ct S w) := by
  have d1 : (z == 4) = false := by rw [beq_eq_false_iff_ne]; exact hz
  have HF := Lib.hid (retZ_same (val := .bool false) h.out)
  clear h
  go_enter Tryz.func40, Tryz.ntmps40
  go_wp2_with fail
  go_ret
  exact HF.out
end Go.Proofs.YtoicpikkcefheaaGreat.P
