/- The document's plic: a source's end of service; Write whole. -/
import Derived.Test.YtoicpikkcefheaaGreatRG
namespace Go.Proofs.YtoicpikkcefheaaGreat.P
open Go.ChangeShapes Go.WideShapes Go.ChangeAt Go.RowKit Go.Sort
open M (Fp Dj Cw Up Th)
set_option linter.unusedVariables false
set_option linter.unusedSimpArgs false
set_option maxRecDepth 20000
theorem come_same2 (S : St) (n : Nat) : (comeF (S.setSt n 0) n).en = S.en ∧ (comeF (S.setSt n 0) n).pr = S.pr ∧ (comeF (S.setSt n 0) n).th = S.th := by
  unfold comeF
  cases ((S.setSt n 0).up n && (S.setSt n 0).st n == 0) <;> exact ⟨rfl, rfl, rfl⟩
theorem fin_tst {b e p t ce cp ct u v s : Nat} {S : St} {w : World} (h : IsRP w b e p t ce cp ct u v s S) (c n : Nat) (P : Int) (hc : c < 2) (hn : n < 9) (hP : (2 : Int) ^ n = P) {T : Bool} (hf : (S.st n == 2 && takeB S c n) = T) : ∃ m r : Nat, bits .and .u64 (s : Int) (S.en c : Int) = (m : Int) ∧ bits .and .u64 ((m : Int) / P) 1 = (r : Int) ∧ ((r : Int) == 1) = T := by
  have hs := h.bs.lt
  have hen := h.ok.2.1 c
  have b1 : bits .and .u64 (s : Int) (S.en c : Int) = ((s &&& S.en c : Nat) : Int) := bits_and_u64_nat s (S.en c) (by omega) (by omega)
  have hT : ((s &&& S.en c) / 2 ^ n % 2 == 1) = T := by
    rw [bit_div, Nat.testBit_and, h.bs.at hn]
    rw [← hf]; unfold takeB; rw [bit_div]
  have s1 := shr1 (s &&& S.en c) n (Nat.lt_of_le_of_lt Nat.and_le_left (by omega))
  rw [hP] at s1
  exact ⟨_, _, b1, s1, (cast_beq _ 1).trans hT⟩
theorem ctxs_0 : (Hid (∀ w, Calls Tryz.prog 79 #[.int .u64 2097156, .int .u64 8192, .int .u64 128] w (RetIX (-1) w))) ∧ (Hid (∀ w, Calls Tryz.prog 79 #[.int .u64 2097156, .int .u64 2097152, .int .u64 4096] w (RetIX (-1) w))) ∧ (Hid (∀ w, Calls Tryz.prog 79 #[.int .u64 2097156, .int .u64 2097156, .int .u64 4096] w (RetIX 0 w))) := ⟨fun w => context_c 2097156 8192 128 (by decide) w, fun w => context_c 2097156 2097152 4096 (by decide) w, fun w => context_c 2097156 2097156 4096 (by decide) w⟩
theorem ctxs_1 : (Hid (∀ w, Calls Tryz.prog 79 #[.int .u64 2101252, .int .u64 8192, .int .u64 128] w (RetIX (-1) w))) ∧ (Hid (∀ w, Calls Tryz.prog 79 #[.int .u64 2101252, .int .u64 2097152, .int .u64 4096] w (RetIX (-1) w))) ∧ (Hid (∀ w, Calls Tryz.prog 79 #[.int .u64 2101252, .int .u64 2097156, .int .u64 4096] w (RetIX 1 w))) := ⟨fun w => context_c 2101252 8192 128 (by decide) w, fun w => context_c 2101252 2097152 4096 (by decide) w, fun w => context_c 2101252 2097156 4096 (by decide) w⟩
set_option maxRecDepth 100000 in
theorem finr_010 (b e p t ce cp ct u v s : Nat) (S : St) (w : World) (h : Hid (IsRP w b e p t ce cp ct u v s S)) (x : Nat) (hx : x % 4294967296 = 1) (hf : (S.st 1 == 2 && takeB S 0 1) = false) : Calls Tryz.prog 40 #[.pointer (some ⟨b, 0, none⟩), .int .u64 2097156, .int .i64 4, .int .u64 x] w (RetZ (.bool true) b e p t ce cp ct S w) := by
  obtain ⟨X1, X2, X3⟩ := ctxs_0
  have y1 : (x : Int) % 4294967296 = 1 := by omega
  have y2 : (x : Int).tmod 4294967296 = 1 := by rw [Int.tmod_eq_emod_of_nonneg (by omega)]; exact y1
  have hu := h.out.bu.lt; have hv := h.out.bv.lt; have hs := h.out.bs.lt
  obtain ⟨m, r, b1, s1, hT2⟩ := fin_tst h.out 0 1 2 (by decide) (by decide) rfl hf
  clear hx
  have K0 := cell_regrown h.out.raw.c2
  have K1 := cell_regrown h.out.raw.c3
  have K2 := cell_regrown (h.out.raw.en 0 (by decide)).1
  have hce := h.out.raw.hce
  clear hf hu hv hs
  go_enter Tryz.func40, Tryz.ntmps40
  go_wp2_with fail
  refine (X1.out _).mono ?_; rintro e0 w1 ⟨rfl, q⟩; subst q
  go_wp2_with fail
  refine (X2.out _).mono ?_; rintro e0 w1 ⟨rfl, q⟩; subst q
  go_wp2_with fail
  refine (X3.out _).mono ?_; rintro e0 w1 ⟨rfl, q⟩; subst q
  go_wp2_with fail
  refine wp_region_quiet_below (by kernel_rfl) (by kernel_rfl) ?_
  repeat (go_big_quiet_step (fail))
  refine wpQuiet_nil ?_
  intro _ hw'
  obtain ⟨⟨dq, osq⟩, hw''⟩ := hw'
  subst hw''
  have hb := below_regrown w1 dq osq
  have H0 := Lib.hid (h.out.raw.below hb)
  have HB0 := Lib.hid (cw_below (T := own4 b e p t) hb)
  have HF : Hid (RetZ (.bool true) b e p t ce cp ct S w1 (.returned (.bool true)) (grow (redrawn w1 dq) osq)) := ⟨rfl, ⟨_, _, _, h.out.below hb⟩, HB0.out⟩
  generalize grow (redrawn w1 dq) osq = w2 at *
  clear K0 K1 K2 H0 HB0 hb h
  go_wp2_with fail
  go_ret
  exact HF.out
set_option maxRecDepth 100000 in
theorem finr_011 (b e p t ce cp ct u v s : Nat) (S : St) (w : World) (h : Hid (IsRP w b e p t ce cp ct u v s S)) (x : Nat) (hx : x % 4294967296 = 1) (hf : (S.st 1 == 2 && takeB S 0 1) = true) : Calls Tryz.prog 40 #[.pointer (some ⟨b, 0, none⟩), .int .u64 2097156, .int .i64 4, .int .u64 x] w (RetZ (.bool true) b e p t ce cp ct (comeF (S.setSt 1 0) 1) w) := by
  obtain ⟨X1, X2, X3⟩ := ctxs_0
  have y1 : (x : Int) % 4294967296 = 1 := by omega
  have y2 : (x : Int).tmod 4294967296 = 1 := by rw [Int.tmod_eq_emod_of_nonneg (by omega)]; exact y1
  have hu := h.out.bu.lt; have hv := h.out.bv.lt; have hs := h.out.bs.lt
  obtain ⟨m, r, b1, s1, hT2⟩ := fin_tst h.out 0 1 2 (by decide) (by decide) rfl hf
  clear hx
  have K0 := cell_regrown h.out.raw.c2
  have K1 := cell_regrown h.out.raw.c3
  have K2 := cell_regrown (h.out.raw.en 0 (by decide)).1
  have hce := h.out.raw.hce
  have HST : Hid (S.st 1 = 2) := by
    have h1 : (S.st 1 == 2) = true := by
      cases q : S.st 1 == 2 with
      | true => rfl
      | false => rw [q] at hf; exact absurd hf (by simp)
    exact Lib.hid (by simpa using h1)
  have a2 : bits .andNot .u64 (s : Int) 2 = ((s &&& 18446744073709551615 - 2 : Nat) : Int) := andNot64 s 2 (by omega) (by decide)
  have B2 := Lib.hid (h.out.bs.off (n := 1) (by decide))
  rw [show (18446744073709551615 - 2 ^ 1 : Nat) = 18446744073709551615 - 2 from rfl] at B2
  obtain ⟨y, hy⟩ : ∃ y, y = s &&& 18446744073709551615 - 2 := ⟨_, rfl⟩
  rw [← hy] at a2 B2
  have HL : Hid (u < 512 ∧ v < 512 ∧ y < 512) := ⟨hu, hv, B2.out.lt⟩
  clear hy hf hu hv hs
  go_enter Tryz.func40, Tryz.ntmps40
  go_wp2_with fail
  refine (X1.out _).mono ?_; rintro e0 w1 ⟨rfl, q⟩; subst q
  go_wp2_with fail
  refine (X2.out _).mono ?_; rintro e0 w1 ⟨rfl, q⟩; subst q
  go_wp2_with fail
  refine (X3.out _).mono ?_; rintro e0 w1 ⟨rfl, q⟩; subst q
  go_wp2_with fail
  refine wp_region_quiet_below (by kernel_rfl) (by kernel_rfl) ?_
  repeat (go_big_quiet_step (fail))
  refine wpQuiet_nil ?_
  intro _ hw'
  obtain ⟨⟨dq, osq⟩, hw''⟩ := hw'
  subst hw''
  have hb := below_regrown w1 dq osq
  have H0 := Lib.hid (h.out.raw.below hb)
  have HB0 := Lib.hid (cw_below (T := own4 b e p t) hb)
  generalize grow (redrawn w1 dq) osq = w2 at *
  clear K0 K1 K2 hb
  have k2 := H0.out.c2
  have f2 := H0.out.fb 2
  have HC1 := Lib.hid (cw_trans HB0.out (cw_set b e p t w2 b 2 (.int .u64 (y : Nat)) (.inl rfl) (by rw [k2]; rfl)))
  have R1 := H0.out.num 2 y (by decide)
  rw [if_neg (by decide), if_neg (by decide), if_pos rfl] at R1
  have HR1 := Lib.hid R1
  clear R1
  go_wp2_with fail
  clear k2 f2
  generalize w2.setCell ⟨b, 2, none⟩ (.int .u64 (y : Nat)) = w4 at *
  have HQ := Lib.hid (come_raw b e p t ce cp ct u v y S w4 HR1 HL.out.1 HL.out.2.1 HL.out.2.2)
  refine HQ.out.mono ?_; rintro e0 w5 ⟨rfl, w6, hb, rfl⟩
  have HR6 := Lib.hid (HR1.out.below hb)
  have k1 := HR6.out.c1
  obtain ⟨q1, q2, q3, q4⟩ := fin_bits (S := S) (n := 1) (s := s) h.out.bu h.out.bv B2.out h.out.inv h.out.ok (by decide) HST.out
  have R6 := HR6.out.num 1 (v ||| (u &&& (18446744073709551615 - y))) (by decide)
  rw [if_neg (by decide), if_pos rfl, if_neg (by decide)] at R6
  have HF : Hid (RetZ (.bool true) b e p t ce cp ct (comeF (S.setSt 1 0) 1) w1 (.returned (.bool true)) (w6.setCell ⟨b, 1, none⟩ (.int .u64 ((v ||| (u &&& (18446744073709551615 - y)) : Nat) : Int)))) :=
    ⟨rfl, ⟨_, _, _, raw_congr R6 (come_same2 S _).1 (come_same2 S _).2.1 (come_same2 S _).2.2, q3, q1, q2, (h.out.ok.setSt 1 0 (by decide)).come 1, q4⟩, cw_trans (cw_trans HC1.out (cw_below hb)) (cw_set b e p t w6 b 1 _ (.inl rfl) (by rw [k1]; rfl))⟩
  clear R6 k1 q1 q2 q3 q4 hb HR1 HC1 HB0 H0
  go_wp2_with fail
  go_ret
  exact HF.out
set_option maxRecDepth 100000 in
theorem finr_020 (b e p t ce cp ct u v s : Nat) (S : St) (w : World) (h : Hid (IsRP w b e p t ce cp ct u v s S)) (x : Nat) (hx : x % 4294967296 = 2) (hf : (S.st 2 == 2 && takeB S 0 2) = false) : Calls Tryz.prog 40 #[.pointer (some ⟨b, 0, none⟩), .int .u64 2097156, .int .i64 4, .int .u64 x] w (RetZ (.bool true) b e p t ce cp ct S w) := by
  obtain ⟨X1, X2, X3⟩ := ctxs_0
  have y1 : (x : Int) % 4294967296 = 2 := by omega
  have y2 : (x : Int).tmod 4294967296 = 2 := by rw [Int.tmod_eq_emod_of_nonneg (by omega)]; exact y1
  have hu := h.out.bu.lt; have hv := h.out.bv.lt; have hs := h.out.bs.lt
  obtain ⟨m, r, b1, s1, hT2⟩ := fin_tst h.out 0 2 4 (by decide) (by decide) rfl hf
  clear hx
  have K0 := cell_regrown h.out.raw.c2
  have K1 := cell_regrown h.out.raw.c3
  have K2 := cell_regrown (h.out.raw.en 0 (by decide)).1
  have hce := h.out.raw.hce
  clear hf hu hv hs
  go_enter Tryz.func40, Tryz.ntmps40
  go_wp2_with fail
  refine (X1.out _).mono ?_; rintro e0 w1 ⟨rfl, q⟩; subst q
  go_wp2_with fail
  refine (X2.out _).mono ?_; rintro e0 w1 ⟨rfl, q⟩; subst q
  go_wp2_with fail
  refine (X3.out _).mono ?_; rintro e0 w1 ⟨rfl, q⟩; subst q
  go_wp2_with fail
  refine wp_region_quiet_below (by kernel_rfl) (by kernel_rfl) ?_
  repeat (go_big_quiet_step (fail))
  refine wpQuiet_nil ?_
  intro _ hw'
  obtain ⟨⟨dq, osq⟩, hw''⟩ := hw'
  subst hw''
  have hb := below_regrown w1 dq osq
  have H0 := Lib.hid (h.out.raw.below hb)
  have HB0 := Lib.hid (cw_below (T := own4 b e p t) hb)
  have HF : Hid (RetZ (.bool true) b e p t ce cp ct S w1 (.returned (.bool true)) (grow (redrawn w1 dq) osq)) := ⟨rfl, ⟨_, _, _, h.out.below hb⟩, HB0.out⟩
  generalize grow (redrawn w1 dq) osq = w2 at *
  clear K0 K1 K2 H0 HB0 hb h
  go_wp2_with fail
  go_ret
  exact HF.out
set_option maxRecDepth 100000 in
theorem finr_021 (b e p t ce cp ct u v s : Nat) (S : St) (w : World) (h : Hid (IsRP w b e p t ce cp ct u v s S)) (x : Nat) (hx : x % 4294967296 = 2) (hf : (S.st 2 == 2 && takeB S 0 2) = true) : Calls Tryz.prog 40 #[.pointer (some ⟨b, 0, none⟩), .int .u64 2097156, .int .i64 4, .int .u64 x] w (RetZ (.bool true) b e p t ce cp ct (comeF (S.setSt 2 0) 2) w) := by
  obtain ⟨X1, X2, X3⟩ := ctxs_0
  have y1 : (x : Int) % 4294967296 = 2 := by omega
  have y2 : (x : Int).tmod 4294967296 = 2 := by rw [Int.tmod_eq_emod_of_nonneg (by omega)]; exact y1
  have hu := h.out.bu.lt; have hv := h.out.bv.lt; have hs := h.out.bs.lt
  obtain ⟨m, r, b1, s1, hT2⟩ := fin_tst h.out 0 2 4 (by decide) (by decide) rfl hf
  clear hx
  have K0 := cell_regrown h.out.raw.c2
  have K1 := cell_regrown h.out.raw.c3
  have K2 := cell_regrown (h.out.raw.en 0 (by decide)).1
  have hce := h.out.raw.hce
  have HST : Hid (S.st 2 = 2) := by
    have h1 : (S.st 2 == 2) = true := by
      cases q : S.st 2 == 2 with
      | true => rfl
      | false => rw [q] at hf; exact absurd hf (by simp)
    exact Lib.hid (by simpa using h1)
  have a2 : bits .andNot .u64 (s : Int) 4 = ((s &&& 18446744073709551615 - 4 : Nat) : Int) := andNot64 s 4 (by omega) (by decide)
  have B2 := Lib.hid (h.out.bs.off (n := 2) (by decide))
  rw [show (18446744073709551615 - 2 ^ 2 : Nat) = 18446744073709551615 - 4 from rfl] at B2
  obtain ⟨y, hy⟩ : ∃ y, y = s &&& 18446744073709551615 - 4 := ⟨_, rfl⟩
  rw [← hy] at a2 B2
  have HL : Hid (u < 512 ∧ v < 512 ∧ y < 512) := ⟨hu, hv, B2.out.lt⟩
  clear hy hf hu hv hs
  go_enter Tryz.func40, Tryz.ntmps40
  go_wp2_with fail
  refine (X1.out _).mono ?_; rintro e0 w1 ⟨rfl, q⟩; subst q
  go_wp2_with fail
  refine (X2.out _).mono ?_; rintro e0 w1 ⟨rfl, q⟩; subst q
  go_wp2_with fail
  refine (X3.out _).mono ?_; rintro e0 w1 ⟨rfl, q⟩; subst q
  go_wp2_with fail
  refine wp_region_quiet_below (by kernel_rfl) (by kernel_rfl) ?_
  repeat (go_big_quiet_step (fail))
  refine wpQuiet_nil ?_
  intro _ hw'
  obtain ⟨⟨dq, osq⟩, hw''⟩ := hw'
  subst hw''
  have hb := below_regrown w1 dq osq
  have H0 := Lib.hid (h.out.raw.below hb)
  have HB0 := Lib.hid (cw_below (T := own4 b e p t) hb)
  generalize grow (redrawn w1 dq) osq = w2 at *
  clear K0 K1 K2 hb
  have k2 := H0.out.c2
  have f2 := H0.out.fb 2
  have HC1 := Lib.hid (cw_trans HB0.out (cw_set b e p t w2 b 2 (.int .u64 (y : Nat)) (.inl rfl) (by rw [k2]; rfl)))
  have R1 := H0.out.num 2 y (by decide)
  rw [if_neg (by decide), if_neg (by decide), if_pos rfl] at R1
  have HR1 := Lib.hid R1
  clear R1
  go_wp2_with fail
  clear k2 f2
  generalize w2.setCell ⟨b, 2, none⟩ (.int .u64 (y : Nat)) = w4 at *
  have HQ := Lib.hid (come_raw b e p t ce cp ct u v y S w4 HR1 HL.out.1 HL.out.2.1 HL.out.2.2)
  refine HQ.out.mono ?_; rintro e0 w5 ⟨rfl, w6, hb, rfl⟩
  have HR6 := Lib.hid (HR1.out.below hb)
  have k1 := HR6.out.c1
  obtain ⟨q1, q2, q3, q4⟩ := fin_bits (S := S) (n := 2) (s := s) h.out.bu h.out.bv B2.out h.out.inv h.out.ok (by decide) HST.out
  have R6 := HR6.out.num 1 (v ||| (u &&& (18446744073709551615 - y))) (by decide)
  rw [if_neg (by decide), if_pos rfl, if_neg (by decide)] at R6
  have HF : Hid (RetZ (.bool true) b e p t ce cp ct (comeF (S.setSt 2 0) 2) w1 (.returned (.bool true)) (w6.setCell ⟨b, 1, none⟩ (.int .u64 ((v ||| (u &&& (18446744073709551615 - y)) : Nat) : Int)))) :=
    ⟨rfl, ⟨_, _, _, raw_congr R6 (come_same2 S _).1 (come_same2 S _).2.1 (come_same2 S _).2.2, q3, q1, q2, (h.out.ok.setSt 2 0 (by decide)).come 2, q4⟩, cw_trans (cw_trans HC1.out (cw_below hb)) (cw_set b e p t w6 b 1 _ (.inl rfl) (by rw [k1]; rfl))⟩
  clear R6 k1 q1 q2 q3 q4 hb HR1 HC1 HB0 H0
  go_wp2_with fail
  go_ret
  exact HF.out
set_option maxRecDepth 100000 in
theorem finr_030 (b e p t ce cp ct u v s : Nat) (S : St) (w : World) (h : Hid (IsRP w b e p t ce cp ct u v s S)) (x : Nat) (hx : x % 4294967296 = 3) (hf : (S.st 3 == 2 && takeB S 0 3) = false) : Calls Tryz.prog 40 #[.pointer (some ⟨b, 0, none⟩), .int .u64 2097156, .int .i64 4, .int .u64 x] w (RetZ (.bool true) b e p t ce cp ct S w) := by
  obtain ⟨X1, X2, X3⟩ := ctxs_0
  have y1 : (x : Int) % 4294967296 = 3 := by omega
  have y2 : (x : Int).tmod 4294967296 = 3 := by rw [Int.tmod_eq_emod_of_nonneg (by omega)]; exact y1
  have hu := h.out.bu.lt; have hv := h.out.bv.lt; have hs := h.out.bs.lt
  obtain ⟨m, r, b1, s1, hT2⟩ := fin_tst h.out 0 3 8 (by decide) (by decide) rfl hf
  clear hx
  have K0 := cell_regrown h.out.raw.c2
  have K1 := cell_regrown h.out.raw.c3
  have K2 := cell_regrown (h.out.raw.en 0 (by decide)).1
  have hce := h.out.raw.hce
  clear hf hu hv hs
  go_enter Tryz.func40, Tryz.ntmps40
  go_wp2_with fail
  refine (X1.out _).mono ?_; rintro e0 w1 ⟨rfl, q⟩; subst q
  go_wp2_with fail
  refine (X2.out _).mono ?_; rintro e0 w1 ⟨rfl, q⟩; subst q
  go_wp2_with fail
  refine (X3.out _).mono ?_; rintro e0 w1 ⟨rfl, q⟩; subst q
  go_wp2_with fail
  refine wp_region_quiet_below (by kernel_rfl) (by kernel_rfl) ?_
  repeat (go_big_quiet_step (fail))
  refine wpQuiet_nil ?_
  intro _ hw'
  obtain ⟨⟨dq, osq⟩, hw''⟩ := hw'
  subst hw''
  have hb := below_regrown w1 dq osq
  have H0 := Lib.hid (h.out.raw.below hb)
  have HB0 := Lib.hid (cw_below (T := own4 b e p t) hb)
  have HF : Hid (RetZ (.bool true) b e p t ce cp ct S w1 (.returned (.bool true)) (grow (redrawn w1 dq) osq)) := ⟨rfl, ⟨_, _, _, h.out.below hb⟩, HB0.out⟩
  generalize grow (redrawn w1 dq) osq = w2 at *
  clear K0 K1 K2 H0 HB0 hb h
  go_wp2_with fail
  go_ret
  exact HF.out
set_option maxRecDepth 100000 in
theorem finr_031 (b e p t ce cp ct u v s : Nat) (S : St) (w : World) (h : Hid (IsRP w b e p t ce cp ct u v s S)) (x : Nat) (hx : x % 4294967296 = 3) (hf : (S.st 3 == 2 && takeB S 0 3) = true) : Calls Tryz.prog 40 #[.pointer (some ⟨b, 0, none⟩), .int .u64 2097156, .int .i64 4, .int .u64 x] w (RetZ (.bool true) b e p t ce cp ct (comeF (S.setSt 3 0) 3) w) := by
  obtain ⟨X1, X2, X3⟩ := ctxs_0
  have y1 : (x : Int) % 4294967296 = 3 := by omega
  have y2 : (x : Int).tmod 4294967296 = 3 := by rw [Int.tmod_eq_emod_of_nonneg (by omega)]; exact y1
  have hu := h.out.bu.lt; have hv := h.out.bv.lt; have hs := h.out.bs.lt
  obtain ⟨m, r, b1, s1, hT2⟩ := fin_tst h.out 0 3 8 (by decide) (by decide) rfl hf
  clear hx
  have K0 := cell_regrown h.out.raw.c2
  have K1 := cell_regrown h.out.raw.c3
  have K2 := cell_regrown (h.out.raw.en 0 (by decide)).1
  have hce := h.out.raw.hce
  have HST : Hid (S.st 3 = 2) := by
    have h1 : (S.st 3 == 2) = true := by
      cases q : S.st 3 == 2 with
      | true => rfl
      | false => rw [q] at hf; exact absurd hf (by simp)
    exact Lib.hid (by simpa using h1)
  have a2 : bits .andNot .u64 (s : Int) 8 = ((s &&& 18446744073709551615 - 8 : Nat) : Int) := andNot64 s 8 (by omega) (by decide)
  have B2 := Lib.hid (h.out.bs.off (n := 3) (by decide))
  rw [show (18446744073709551615 - 2 ^ 3 : Nat) = 18446744073709551615 - 8 from rfl] at B2
  obtain ⟨y, hy⟩ : ∃ y, y = s &&& 18446744073709551615 - 8 := ⟨_, rfl⟩
  rw [← hy] at a2 B2
  have HL : Hid (u < 512 ∧ v < 512 ∧ y < 512) := ⟨hu, hv, B2.out.lt⟩
  clear hy hf hu hv hs
  go_enter Tryz.func40, Tryz.ntmps40
  go_wp2_with fail
  refine (X1.out _).mono ?_; rintro e0 w1 ⟨rfl, q⟩; subst q
  go_wp2_with fail
  refine (X2.out _).mono ?_; rintro e0 w1 ⟨rfl, q⟩; subst q
  go_wp2_with fail
  refine (X3.out _).mono ?_; rintro e0 w1 ⟨rfl, q⟩; subst q
  go_wp2_with fail
  refine wp_region_quiet_below (by kernel_rfl) (by kernel_rfl) ?_
  repeat (go_big_quiet_step (fail))
  refine wpQuiet_nil ?_
  intro _ hw'
  obtain ⟨⟨dq, osq⟩, hw''⟩ := hw'
  subst hw''
  have hb := below_regrown w1 dq osq
  have H0 := Lib.hid (h.out.raw.below hb)
  have HB0 := Lib.hid (cw_below (T := own4 b e p t) hb)
  generalize grow (redrawn w1 dq) osq = w2 at *
  clear K0 K1 K2 hb
  have k2 := H0.out.c2
  have f2 := H0.out.fb 2
  have HC1 := Lib.hid (cw_trans HB0.out (cw_set b e p t w2 b 2 (.int .u64 (y : Nat)) (.inl rfl) (by rw [k2]; rfl)))
  have R1 := H0.out.num 2 y (by decide)
  rw [if_neg (by decide), if_neg (by decide), if_pos rfl] at R1
  have HR1 := Lib.hid R1
  clear R1
  go_wp2_with fail
  clear k2 f2
  generalize w2.setCell ⟨b, 2, none⟩ (.int .u64 (y : Nat)) = w4 at *
  have HQ := Lib.hid (come_raw b e p t ce cp ct u v y S w4 HR1 HL.out.1 HL.out.2.1 HL.out.2.2)
  refine HQ.out.mono ?_; rintro e0 w5 ⟨rfl, w6, hb, rfl⟩
  have HR6 := Lib.hid (HR1.out.below hb)
  have k1 := HR6.out.c1
  obtain ⟨q1, q2, q3, q4⟩ := fin_bits (S := S) (n := 3) (s := s) h.out.bu h.out.bv B2.out h.out.inv h.out.ok (by decide) HST.out
  have R6 := HR6.out.num 1 (v ||| (u &&& (18446744073709551615 - y))) (by decide)
  rw [if_neg (by decide), if_pos rfl, if_neg (by decide)] at R6
  have HF : Hid (RetZ (.bool true) b e p t ce cp ct (comeF (S.setSt 3 0) 3) w1 (.returned (.bool true)) (w6.setCell ⟨b, 1, none⟩ (.int .u64 ((v ||| (u &&& (18446744073709551615 - y)) : Nat) : Int)))) :=
    ⟨rfl, ⟨_, _, _, raw_congr R6 (come_same2 S _).1 (come_same2 S _).2.1 (come_same2 S _).2.2, q3, q1, q2, (h.out.ok.setSt 3 0 (by decide)).come 3, q4⟩, cw_trans (cw_trans HC1.out (cw_below hb)) (cw_set b e p t w6 b 1 _ (.inl rfl) (by rw [k1]; rfl))⟩
  clear R6 k1 q1 q2 q3 q4 hb HR1 HC1 HB0 H0
  go_wp2_with fail
  go_ret
  exact HF.out
set_option maxRecDepth 100000 in
theorem finr_040 (b e p t ce cp ct u v s : Nat) (S : St) (w : World) (h : Hid (IsRP w b e p t ce cp ct u v s S)) (x : Nat) (hx : x % 4294967296 = 4) (hf : (S.st 4 == 2 && takeB S 0 4) = false) : Calls Tryz.prog 40 #[.pointer (some ⟨b, 0, none⟩), .int .u64 2097156, .int .i64 4, .int .u64 x] w (RetZ (.bool true) b e p t ce cp ct S w) := by
  obtain ⟨X1, X2, X3⟩ := ctxs_0
  have y1 : (x : Int) % 4294967296 = 4 := by omega
  have y2 : (x : Int).tmod 4294967296 = 4 := by rw [Int.tmod_eq_emod_of_nonneg (by omega)]; exact y1
  have hu := h.out.bu.lt; have hv := h.out.bv.lt; have hs := h.out.bs.lt
  obtain ⟨m, r, b1, s1, hT2⟩ := fin_tst h.out 0 4 16 (by decide) (by decide) rfl hf
  clear hx
  have K0 := cell_regrown h.out.raw.c2
  have K1 := cell_regrown h.out.raw.c3
  have K2 := cell_regrown (h.out.raw.en 0 (by decide)).1
  have hce := h.out.raw.hce
  clear hf hu hv hs
  go_enter Tryz.func40, Tryz.ntmps40
  go_wp2_with fail
  refine (X1.out _).mono ?_; rintro e0 w1 ⟨rfl, q⟩; subst q
  go_wp2_with fail
  refine (X2.out _).mono ?_; rintro e0 w1 ⟨rfl, q⟩; subst q
  go_wp2_with fail
  refine (X3.out _).mono ?_; rintro e0 w1 ⟨rfl, q⟩; subst q
  go_wp2_with fail
  refine wp_region_quiet_below (by kernel_rfl) (by kernel_rfl) ?_
  repeat (go_big_quiet_step (fail))
  refine wpQuiet_nil ?_
  intro _ hw'
  obtain ⟨⟨dq, osq⟩, hw''⟩ := hw'
  subst hw''
  have hb := below_regrown w1 dq osq
  have H0 := Lib.hid (h.out.raw.below hb)
  have HB0 := Lib.hid (cw_below (T := own4 b e p t) hb)
  have HF : Hid (RetZ (.bool true) b e p t ce cp ct S w1 (.returned (.bool true)) (grow (redrawn w1 dq) osq)) := ⟨rfl, ⟨_, _, _, h.out.below hb⟩, HB0.out⟩
  generalize grow (redrawn w1 dq) osq = w2 at *
  clear K0 K1 K2 H0 HB0 hb h
  go_wp2_with fail
  go_ret
  exact HF.out
set_option maxRecDepth 100000 in
theorem finr_041 (b e p t ce cp ct u v s : Nat) (S : St) (w : World) (h : Hid (IsRP w b e p t ce cp ct u v s S)) (x : Nat) (hx : x % 4294967296 = 4) (hf : (S.st 4 == 2 && takeB S 0 4) = true) : Calls Tryz.prog 40 #[.pointer (some ⟨b, 0, none⟩), .int .u64 2097156, .int .i64 4, .int .u64 x] w (RetZ (.bool true) b e p t ce cp ct (comeF (S.setSt 4 0) 4) w) := by
  obtain ⟨X1, X2, X3⟩ := ctxs_0
  have y1 : (x : Int) % 4294967296 = 4 := by omega
  have y2 : (x : Int).tmod 4294967296 = 4 := by rw [Int.tmod_eq_emod_of_nonneg (by omega)]; exact y1
  have hu := h.out.bu.lt; have hv := h.out.bv.lt; have hs := h.out.bs.lt
  obtain ⟨m, r, b1, s1, hT2⟩ := fin_tst h.out 0 4 16 (by decide) (by decide) rfl hf
  clear hx
  have K0 := cell_regrown h.out.raw.c2
  have K1 := cell_regrown h.out.raw.c3
  have K2 := cell_regrown (h.out.raw.en 0 (by decide)).1
  have hce := h.out.raw.hce
  have HST : Hid (S.st 4 = 2) := by
    have h1 : (S.st 4 == 2) = true := by
      cases q : S.st 4 == 2 with
      | true => rfl
      | false => rw [q] at hf; exact absurd hf (by simp)
    exact Lib.hid (by simpa using h1)
  have a2 : bits .andNot .u64 (s : Int) 16 = ((s &&& 18446744073709551615 - 16 : Nat) : Int) := andNot64 s 16 (by omega) (by decide)
  have B2 := Lib.hid (h.out.bs.off (n := 4) (by decide))
  rw [show (18446744073709551615 - 2 ^ 4 : Nat) = 18446744073709551615 - 16 from rfl] at B2
  obtain ⟨y, hy⟩ : ∃ y, y = s &&& 18446744073709551615 - 16 := ⟨_, rfl⟩
  rw [← hy] at a2 B2
  have HL : Hid (u < 512 ∧ v < 512 ∧ y < 512) := ⟨hu, hv, B2.out.lt⟩
  clear hy hf hu hv hs
  go_enter Tryz.func40, Tryz.ntmps40
  go_wp2_with fail
  refine (X1.out _).mono ?_; rintro e0 w1 ⟨rfl, q⟩; subst q
  go_wp2_with fail
  refine (X2.out _).mono ?_; rintro e0 w1 ⟨rfl, q⟩; subst q
  go_wp2_with fail
  refine (X3.out _).mono ?_; rintro e0 w1 ⟨rfl, q⟩; subst q
  go_wp2_with fail
  refine wp_region_quiet_below (by kernel_rfl) (by kernel_rfl) ?_
  repeat (go_big_quiet_step (fail))
  refine wpQuiet_nil ?_
  intro _ hw'
  obtain ⟨⟨dq, osq⟩, hw''⟩ := hw'
  subst hw''
  have hb := below_regrown w1 dq osq
  have H0 := Lib.hid (h.out.raw.below hb)
  have HB0 := Lib.hid (cw_below (T := own4 b e p t) hb)
  generalize grow (redrawn w1 dq) osq = w2 at *
  clear K0 K1 K2 hb
  have k2 := H0.out.c2
  have f2 := H0.out.fb 2
  have HC1 := Lib.hid (cw_trans HB0.out (cw_set b e p t w2 b 2 (.int .u64 (y : Nat)) (.inl rfl) (by rw [k2]; rfl)))
  have R1 := H0.out.num 2 y (by decide)
  rw [if_neg (by decide), if_neg (by decide), if_pos rfl] at R1
  have HR1 := Lib.hid R1
  clear R1
  go_wp2_with fail
  clear k2 f2
  generalize w2.setCell ⟨b, 2, none⟩ (.int .u64 (y : Nat)) = w4 at *
  have HQ := Lib.hid (come_raw b e p t ce cp ct u v y S w4 HR1 HL.out.1 HL.out.2.1 HL.out.2.2)
  refine HQ.out.mono ?_; rintro e0 w5 ⟨rfl, w6, hb, rfl⟩
  have HR6 := Lib.hid (HR1.out.below hb)
  have k1 := HR6.out.c1
  obtain ⟨q1, q2, q3, q4⟩ := fin_bits (S := S) (n := 4) (s := s) h.out.bu h.out.bv B2.out h.out.inv h.out.ok (by decide) HST.out
  have R6 := HR6.out.num 1 (v ||| (u &&& (18446744073709551615 - y))) (by decide)
  rw [if_neg (by decide), if_pos rfl, if_neg (by decide)] at R6
  have HF : Hid (RetZ (.bool true) b e p t ce cp ct (comeF (S.setSt 4 0) 4) w1 (.returned (.bool true)) (w6.setCell ⟨b, 1, none⟩ (.int .u64 ((v ||| (u &&& (18446744073709551615 - y)) : Nat) : Int)))) :=
    ⟨rfl, ⟨_, _, _, raw_congr R6 (come_same2 S _).1 (come_same2 S _).2.1 (come_same2 S _).2.2, q3, q1, q2, (h.out.ok.setSt 4 0 (by decide)).come 4, q4⟩, cw_trans (cw_trans HC1.out (cw_below hb)) (cw_set b e p t w6 b 1 _ (.inl rfl) (by rw [k1]; rfl))⟩
  clear R6 k1 q1 q2 q3 q4 hb HR1 HC1 HB0 H0
  go_wp2_with fail
  go_ret
  exact HF.out
set_option maxRecDepth 100000 in
theorem finr_050 (b e p t ce cp ct u v s : Nat) (S : St) (w : World) (h : Hid (IsRP w b e p t ce cp ct u v s S)) (x : Nat) (hx : x % 4294967296 = 5) (hf : (S.st 5 == 2 && takeB S 0 5) = false) : Calls Tryz.prog 40 #[.pointer (some ⟨b, 0, none⟩), .int .u64 2097156, .int .i64 4, .int .u64 x] w (RetZ (.bool true) b e p t ce cp ct S w) := by
  obtain ⟨X1, X2, X3⟩ := ctxs_0
  have y1 : (x : Int) % 4294967296 = 5 := by omega
  have y2 : (x : Int).tmod 4294967296 = 5 := by rw [Int.tmod_eq_emod_of_nonneg (by omega)]; exact y1
  have hu := h.out.bu.lt; have hv := h.out.bv.lt; have hs := h.out.bs.lt
  obtain ⟨m, r, b1, s1, hT2⟩ := fin_tst h.out 0 5 32 (by decide) (by decide) rfl hf
  clear hx
  have K0 := cell_regrown h.out.raw.c2
  have K1 := cell_regrown h.out.raw.c3
  have K2 := cell_regrown (h.out.raw.en 0 (by decide)).1
  have hce := h.out.raw.hce
  clear hf hu hv hs
  go_enter Tryz.func40, Tryz.ntmps40
  go_wp2_with fail
  refine (X1.out _).mono ?_; rintro e0 w1 ⟨rfl, q⟩; subst q
  go_wp2_with fail
  refine (X2.out _).mono ?_; rintro e0 w1 ⟨rfl, q⟩; subst q
  go_wp2_with fail
  refine (X3.out _).mono ?_; rintro e0 w1 ⟨rfl, q⟩; subst q
  go_wp2_with fail
  refine wp_region_quiet_below (by kernel_rfl) (by kernel_rfl) ?_
  repeat (go_big_quiet_step (fail))
  refine wpQuiet_nil ?_
  intro _ hw'
  obtain ⟨⟨dq, osq⟩, hw''⟩ := hw'
  subst hw''
  have hb := below_regrown w1 dq osq
  have H0 := Lib.hid (h.out.raw.below hb)
  have HB0 := Lib.hid (cw_below (T := own4 b e p t) hb)
  have HF : Hid (RetZ (.bool true) b e p t ce cp ct S w1 (.returned (.bool true)) (grow (redrawn w1 dq) osq)) := ⟨rfl, ⟨_, _, _, h.out.below hb⟩, HB0.out⟩
  generalize grow (redrawn w1 dq) osq = w2 at *
  clear K0 K1 K2 H0 HB0 hb h
  go_wp2_with fail
  go_ret
  exact HF.out
set_option maxRecDepth 100000 in
theorem finr_051 (b e p t ce cp ct u v s : Nat) (S : St) (w : World) (h : Hid (IsRP w b e p t ce cp ct u v s S)) (x : Nat) (hx : x % 4294967296 = 5) (hf : (S.st 5 == 2 && takeB S 0 5) = true) : Calls Tryz.prog 40 #[.pointer (some ⟨b, 0, none⟩), .int .u64 2097156, .int .i64 4, .int .u64 x] w (RetZ (.bool true) b e p t ce cp ct (comeF (S.setSt 5 0) 5) w) := by
  obtain ⟨X1, X2, X3⟩ := ctxs_0
  have y1 : (x : Int) % 4294967296 = 5 := by omega
  have y2 : (x : Int).tmod 4294967296 = 5 := by rw [Int.tmod_eq_emod_of_nonneg (by omega)]; exact y1
  have hu := h.out.bu.lt; have hv := h.out.bv.lt; have hs := h.out.bs.lt
  obtain ⟨m, r, b1, s1, hT2⟩ := fin_tst h.out 0 5 32 (by decide) (by decide) rfl hf
  clear hx
  have K0 := cell_regrown h.out.raw.c2
  have K1 := cell_regrown h.out.raw.c3
  have K2 := cell_regrown (h.out.raw.en 0 (by decide)).1
  have hce := h.out.raw.hce
  have HST : Hid (S.st 5 = 2) := by
    have h1 : (S.st 5 == 2) = true := by
      cases q : S.st 5 == 2 with
      | true => rfl
      | false => rw [q] at hf; exact absurd hf (by simp)
    exact Lib.hid (by simpa using h1)
  have a2 : bits .andNot .u64 (s : Int) 32 = ((s &&& 18446744073709551615 - 32 : Nat) : Int) := andNot64 s 32 (by omega) (by decide)
  have B2 := Lib.hid (h.out.bs.off (n := 5) (by decide))
  rw [show (18446744073709551615 - 2 ^ 5 : Nat) = 18446744073709551615 - 32 from rfl] at B2
  obtain ⟨y, hy⟩ : ∃ y, y = s &&& 18446744073709551615 - 32 := ⟨_, rfl⟩
  rw [← hy] at a2 B2
  have HL : Hid (u < 512 ∧ v < 512 ∧ y < 512) := ⟨hu, hv, B2.out.lt⟩
  clear hy hf hu hv hs
  go_enter Tryz.func40, Tryz.ntmps40
  go_wp2_with fail
  refine (X1.out _).mono ?_; rintro e0 w1 ⟨rfl, q⟩; subst q
  go_wp2_with fail
  refine (X2.out _).mono ?_; rintro e0 w1 ⟨rfl, q⟩; subst q
  go_wp2_with fail
  refine (X3.out _).mono ?_; rintro e0 w1 ⟨rfl, q⟩; subst q
  go_wp2_with fail
  refine wp_region_quiet_below (by kernel_rfl) (by kernel_rfl) ?_
  repeat (go_big_quiet_step (fail))
  refine wpQuiet_nil ?_
  intro _ hw'
  obtain ⟨⟨dq, osq⟩, hw''⟩ := hw'
  subst hw''
  have hb := below_regrown w1 dq osq
  have H0 := Lib.hid (h.out.raw.below hb)
  have HB0 := Lib.hid (cw_below (T := own4 b e p t) hb)
  generalize grow (redrawn w1 dq) osq = w2 at *
  clear K0 K1 K2 hb
  have k2 := H0.out.c2
  have f2 := H0.out.fb 2
  have HC1 := Lib.hid (cw_trans HB0.out (cw_set b e p t w2 b 2 (.int .u64 (y : Nat)) (.inl rfl) (by rw [k2]; rfl)))
  have R1 := H0.out.num 2 y (by decide)
  rw [if_neg (by decide), if_neg (by decide), if_pos rfl] at R1
  have HR1 := Lib.hid R1
  clear R1
  go_wp2_with fail
  clear k2 f2
  generalize w2.setCell ⟨b, 2, none⟩ (.int .u64 (y : Nat)) = w4 at *
  have HQ := Lib.hid (come_raw b e p t ce cp ct u v y S w4 HR1 HL.out.1 HL.out.2.1 HL.out.2.2)
  refine HQ.out.mono ?_; rintro e0 w5 ⟨rfl, w6, hb, rfl⟩
  have HR6 := Lib.hid (HR1.out.below hb)
  have k1 := HR6.out.c1
  obtain ⟨q1, q2, q3, q4⟩ := fin_bits (S := S) (n := 5) (s := s) h.out.bu h.out.bv B2.out h.out.inv h.out.ok (by decide) HST.out
  have R6 := HR6.out.num 1 (v ||| (u &&& (18446744073709551615 - y))) (by decide)
  rw [if_neg (by decide), if_pos rfl, if_neg (by decide)] at R6
  have HF : Hid (RetZ (.bool true) b e p t ce cp ct (comeF (S.setSt 5 0) 5) w1 (.returned (.bool true)) (w6.setCell ⟨b, 1, none⟩ (.int .u64 ((v ||| (u &&& (18446744073709551615 - y)) : Nat) : Int)))) :=
    ⟨rfl, ⟨_, _, _, raw_congr R6 (come_same2 S _).1 (come_same2 S _).2.1 (come_same2 S _).2.2, q3, q1, q2, (h.out.ok.setSt 5 0 (by decide)).come 5, q4⟩, cw_trans (cw_trans HC1.out (cw_below hb)) (cw_set b e p t w6 b 1 _ (.inl rfl) (by rw [k1]; rfl))⟩
  clear R6 k1 q1 q2 q3 q4 hb HR1 HC1 HB0 H0
  go_wp2_with fail
  go_ret
  exact HF.out
set_option maxRecDepth 100000 in
theorem finr_060 (b e p t ce cp ct u v s : Nat) (S : St) (w : World) (h : Hid (IsRP w b e p t ce cp ct u v s S)) (x : Nat) (hx : x % 4294967296 = 6) (hf : (S.st 6 == 2 && takeB S 0 6) = false) : Calls Tryz.prog 40 #[.pointer (some ⟨b, 0, none⟩), .int .u64 2097156, .int .i64 4, .int .u64 x] w (RetZ (.bool true) b e p t ce cp ct S w) := by
  obtain ⟨X1, X2, X3⟩ := ctxs_0
  have y1 : (x : Int) % 4294967296 = 6 := by omega
  have y2 : (x : Int).tmod 4294967296 = 6 := by rw [Int.tmod_eq_emod_of_nonneg (by omega)]; exact y1
  have hu := h.out.bu.lt; have hv := h.out.bv.lt; have hs := h.out.bs.lt
  obtain ⟨m, r, b1, s1, hT2⟩ := fin_tst h.out 0 6 64 (by decide) (by decide) rfl hf
  clear hx
  have K0 := cell_regrown h.out.raw.c2
  have K1 := cell_regrown h.out.raw.c3
  have K2 := cell_regrown (h.out.raw.en 0 (by decide)).1
  have hce := h.out.raw.hce
  clear hf hu hv hs
  go_enter Tryz.func40, Tryz.ntmps40
  go_wp2_with fail
  refine (X1.out _).mono ?_; rintro e0 w1 ⟨rfl, q⟩; subst q
  go_wp2_with fail
  refine (X2.out _).mono ?_; rintro e0 w1 ⟨rfl, q⟩; subst q
  go_wp2_with fail
  refine (X3.out _).mono ?_; rintro e0 w1 ⟨rfl, q⟩; subst q
  go_wp2_with fail
  refine wp_region_quiet_below (by kernel_rfl) (by kernel_rfl) ?_
  repeat (go_big_quiet_step (fail))
  refine wpQuiet_nil ?_
  intro _ hw'
  obtain ⟨⟨dq, osq⟩, hw''⟩ := hw'
  subst hw''
  have hb := below_regrown w1 dq osq
  have H0 := Lib.hid (h.out.raw.below hb)
  have HB0 := Lib.hid (cw_below (T := own4 b e p t) hb)
  have HF : Hid (RetZ (.bool true) b e p t ce cp ct S w1 (.returned (.bool true)) (grow (redrawn w1 dq) osq)) := ⟨rfl, ⟨_, _, _, h.out.below hb⟩, HB0.out⟩
  generalize grow (redrawn w1 dq) osq = w2 at *
  clear K0 K1 K2 H0 HB0 hb h
  go_wp2_with fail
  go_ret
  exact HF.out
set_option maxRecDepth 100000 in
theorem finr_061 (b e p t ce cp ct u v s : Nat) (S : St) (w : World) (h : Hid (IsRP w b e p t ce cp ct u v s S)) (x : Nat) (hx : x % 4294967296 = 6) (hf : (S.st 6 == 2 && takeB S 0 6) = true) : Calls Tryz.prog 40 #[.pointer (some ⟨b, 0, none⟩), .int .u64 2097156, .int .i64 4, .int .u64 x] w (RetZ (.bool true) b e p t ce cp ct (comeF (S.setSt 6 0) 6) w) := by
  obtain ⟨X1, X2, X3⟩ := ctxs_0
  have y1 : (x : Int) % 4294967296 = 6 := by omega
  have y2 : (x : Int).tmod 4294967296 = 6 := by rw [Int.tmod_eq_emod_of_nonneg (by omega)]; exact y1
  have hu := h.out.bu.lt; have hv := h.out.bv.lt; have hs := h.out.bs.lt
  obtain ⟨m, r, b1, s1, hT2⟩ := fin_tst h.out 0 6 64 (by decide) (by decide) rfl hf
  clear hx
  have K0 := cell_regrown h.out.raw.c2
  have K1 := cell_regrown h.out.raw.c3
  have K2 := cell_regrown (h.out.raw.en 0 (by decide)).1
  have hce := h.out.raw.hce
  have HST : Hid (S.st 6 = 2) := by
    have h1 : (S.st 6 == 2) = true := by
      cases q : S.st 6 == 2 with
      | true => rfl
      | false => rw [q] at hf; exact absurd hf (by simp)
    exact Lib.hid (by simpa using h1)
  have a2 : bits .andNot .u64 (s : Int) 64 = ((s &&& 18446744073709551615 - 64 : Nat) : Int) := andNot64 s 64 (by omega) (by decide)
  have B2 := Lib.hid (h.out.bs.off (n := 6) (by decide))
  rw [show (18446744073709551615 - 2 ^ 6 : Nat) = 18446744073709551615 - 64 from rfl] at B2
  obtain ⟨y, hy⟩ : ∃ y, y = s &&& 18446744073709551615 - 64 := ⟨_, rfl⟩
  rw [← hy] at a2 B2
  have HL : Hid (u < 512 ∧ v < 512 ∧ y < 512) := ⟨hu, hv, B2.out.lt⟩
  clear hy hf hu hv hs
  go_enter Tryz.func40, Tryz.ntmps40
  go_wp2_with fail
  refine (X1.out _).mono ?_; rintro e0 w1 ⟨rfl, q⟩; subst q
  go_wp2_with fail
  refine (X2.out _).mono ?_; rintro e0 w1 ⟨rfl, q⟩; subst q
  go_wp2_with fail
  refine (X3.out _).mono ?_; rintro e0 w1 ⟨rfl, q⟩; subst q
  go_wp2_with fail
  refine wp_region_quiet_below (by kernel_rfl) (by kernel_rfl) ?_
  repeat (go_big_quiet_step (fail))
  refine wpQuiet_nil ?_
  intro _ hw'
  obtain ⟨⟨dq, osq⟩, hw''⟩ := hw'
  subst hw''
  have hb := below_regrown w1 dq osq
  have H0 := Lib.hid (h.out.raw.below hb)
  have HB0 := Lib.hid (cw_below (T := own4 b e p t) hb)
  generalize grow (redrawn w1 dq) osq = w2 at *
  clear K0 K1 K2 hb
  have k2 := H0.out.c2
  have f2 := H0.out.fb 2
  have HC1 := Lib.hid (cw_trans HB0.out (cw_set b e p t w2 b 2 (.int .u64 (y : Nat)) (.inl rfl) (by rw [k2]; rfl)))
  have R1 := H0.out.num 2 y (by decide)
  rw [if_neg (by decide), if_neg (by decide), if_pos rfl] at R1
  have HR1 := Lib.hid R1
  clear R1
  go_wp2_with fail
  clear k2 f2
  generalize w2.setCell ⟨b, 2, none⟩ (.int .u64 (y : Nat)) = w4 at *
  have HQ := Lib.hid (come_raw b e p t ce cp ct u v y S w4 HR1 HL.out.1 HL.out.2.1 HL.out.2.2)
  refine HQ.out.mono ?_; rintro e0 w5 ⟨rfl, w6, hb, rfl⟩
  have HR6 := Lib.hid (HR1.out.below hb)
  have k1 := HR6.out.c1
  obtain ⟨q1, q2, q3, q4⟩ := fin_bits (S := S) (n := 6) (s := s) h.out.bu h.out.bv B2.out h.out.inv h.out.ok (by decide) HST.out
  have R6 := HR6.out.num 1 (v ||| (u &&& (18446744073709551615 - y))) (by decide)
  rw [if_neg (by decide), if_pos rfl, if_neg (by decide)] at R6
  have HF : Hid (RetZ (.bool true) b e p t ce cp ct (comeF (S.setSt 6 0) 6) w1 (.returned (.bool true)) (w6.setCell ⟨b, 1, none⟩ (.int .u64 ((v ||| (u &&& (18446744073709551615 - y)) : Nat) : Int)))) :=
    ⟨rfl, ⟨_, _, _, raw_congr R6 (come_same2 S _).1 (come_same2 S _).2.1 (come_same2 S _).2.2, q3, q1, q2, (h.out.ok.setSt 6 0 (by decide)).come 6, q4⟩, cw_trans (cw_trans HC1.out (cw_below hb)) (cw_set b e p t w6 b 1 _ (.inl rfl) (by rw [k1]; rfl))⟩
  clear R6 k1 q1 q2 q3 q4 hb HR1 HC1 HB0 H0
  go_wp2_with fail
  go_ret
  exact HF.out
set_option maxRecDepth 100000 in
theorem finr_070 (b e p t ce cp ct u v s : Nat) (S : St) (w : World) (h : Hid (IsRP w b e p t ce cp ct u v s S)) (x : Nat) (hx : x % 4294967296 = 7) (hf : (S.st 7 == 2 && takeB S 0 7) = false) : Calls Tryz.prog 40 #[.pointer (some ⟨b, 0, none⟩), .int .u64 2097156, .int .i64 4, .int .u64 x] w (RetZ (.bool true) b e p t ce cp ct S w) := by
  obtain ⟨X1, X2, X3⟩ := ctxs_0
  have y1 : (x : Int) % 4294967296 = 7 := by omega
  have y2 : (x : Int).tmod 4294967296 = 7 := by rw [Int.tmod_eq_emod_of_nonneg (by omega)]; exact y1
  have hu := h.out.bu.lt; have hv := h.out.bv.lt; have hs := h.out.bs.lt
  obtain ⟨m, r, b1, s1, hT2⟩ := fin_tst h.out 0 7 128 (by decide) (by decide) rfl hf
  clear hx
  have K0 := cell_regrown h.out.raw.c2
  have K1 := cell_regrown h.out.raw.c3
  have K2 := cell_regrown (h.out.raw.en 0 (by decide)).1
  have hce := h.out.raw.hce
  clear hf hu hv hs
  go_enter Tryz.func40, Tryz.ntmps40
  go_wp2_with fail
  refine (X1.out _).mono ?_; rintro e0 w1 ⟨rfl, q⟩; subst q
  go_wp2_with fail
  refine (X2.out _).mono ?_; rintro e0 w1 ⟨rfl, q⟩; subst q
  go_wp2_with fail
  refine (X3.out _).mono ?_; rintro e0 w1 ⟨rfl, q⟩; subst q
  go_wp2_with fail
  refine wp_region_quiet_below (by kernel_rfl) (by kernel_rfl) ?_
  repeat (go_big_quiet_step (fail))
  refine wpQuiet_nil ?_
  intro _ hw'
  obtain ⟨⟨dq, osq⟩, hw''⟩ := hw'
  subst hw''
  have hb := below_regrown w1 dq osq
  have H0 := Lib.hid (h.out.raw.below hb)
  have HB0 := Lib.hid (cw_below (T := own4 b e p t) hb)
  have HF : Hid (RetZ (.bool true) b e p t ce cp ct S w1 (.returned (.bool true)) (grow (redrawn w1 dq) osq)) := ⟨rfl, ⟨_, _, _, h.out.below hb⟩, HB0.out⟩
  generalize grow (redrawn w1 dq) osq = w2 at *
  clear K0 K1 K2 H0 HB0 hb h
  go_wp2_with fail
  go_ret
  exact HF.out
set_option maxRecDepth 100000 in
theorem finr_071 (b e p t ce cp ct u v s : Nat) (S : St) (w : World) (h : Hid (IsRP w b e p t ce cp ct u v s S)) (x : Nat) (hx : x % 4294967296 = 7) (hf : (S.st 7 == 2 && takeB S 0 7) = true) : Calls Tryz.prog 40 #[.pointer (some ⟨b, 0, none⟩), .int .u64 2097156, .int .i64 4, .int .u64 x] w (RetZ (.bool true) b e p t ce cp ct (comeF (S.setSt 7 0) 7) w) := by
  obtain ⟨X1, X2, X3⟩ := ctxs_0
  have y1 : (x : Int) % 4294967296 = 7 := by omega
  have y2 : (x : Int).tmod 4294967296 = 7 := by rw [Int.tmod_eq_emod_of_nonneg (by omega)]; exact y1
  have hu := h.out.bu.lt; have hv := h.out.bv.lt; have hs := h.out.bs.lt
  obtain ⟨m, r, b1, s1, hT2⟩ := fin_tst h.out 0 7 128 (by decide) (by decide) rfl hf
  clear hx
  have K0 := cell_regrown h.out.raw.c2
  have K1 := cell_regrown h.out.raw.c3
  have K2 := cell_regrown (h.out.raw.en 0 (by decide)).1
  have hce := h.out.raw.hce
  have HST : Hid (S.st 7 = 2) := by
    have h1 : (S.st 7 == 2) = true := by
      cases q : S.st 7 == 2 with
      | true => rfl
      | false => rw [q] at hf; exact absurd hf (by simp)
    exact Lib.hid (by simpa using h1)
  have a2 : bits .andNot .u64 (s : Int) 128 = ((s &&& 18446744073709551615 - 128 : Nat) : Int) := andNot64 s 128 (by omega) (by decide)
  have B2 := Lib.hid (h.out.bs.off (n := 7) (by decide))
  rw [show (18446744073709551615 - 2 ^ 7 : Nat) = 18446744073709551615 - 128 from rfl] at B2
  obtain ⟨y, hy⟩ : ∃ y, y = s &&& 18446744073709551615 - 128 := ⟨_, rfl⟩
  rw [← hy] at a2 B2
  have HL : Hid (u < 512 ∧ v < 512 ∧ y < 512) := ⟨hu, hv, B2.out.lt⟩
  clear hy hf hu hv hs
  go_enter Tryz.func40, Tryz.ntmps40
  go_wp2_with fail
  refine (X1.out _).mono ?_; rintro e0 w1 ⟨rfl, q⟩; subst q
  go_wp2_with fail
  refine (X2.out _).mono ?_; rintro e0 w1 ⟨rfl, q⟩; subst q
  go_wp2_with fail
  refine (X3.out _).mono ?_; rintro e0 w1 ⟨rfl, q⟩; subst q
  go_wp2_with fail
  refine wp_region_quiet_below (by kernel_rfl) (by kernel_rfl) ?_
  repeat (go_big_quiet_step (fail))
  refine wpQuiet_nil ?_
  intro _ hw'
  obtain ⟨⟨dq, osq⟩, hw''⟩ := hw'
  subst hw''
  have hb := below_regrown w1 dq osq
  have H0 := Lib.hid (h.out.raw.below hb)
  have HB0 := Lib.hid (cw_below (T := own4 b e p t) hb)
  generalize grow (redrawn w1 dq) osq = w2 at *
  clear K0 K1 K2 hb
  have k2 := H0.out.c2
  have f2 := H0.out.fb 2
  have HC1 := Lib.hid (cw_trans HB0.out (cw_set b e p t w2 b 2 (.int .u64 (y : Nat)) (.inl rfl) (by rw [k2]; rfl)))
  have R1 := H0.out.num 2 y (by decide)
  rw [if_neg (by decide), if_neg (by decide), if_pos rfl] at R1
  have HR1 := Lib.hid R1
  clear R1
  go_wp2_with fail
  clear k2 f2
  generalize w2.setCell ⟨b, 2, none⟩ (.int .u64 (y : Nat)) = w4 at *
  have HQ := Lib.hid (come_raw b e p t ce cp ct u v y S w4 HR1 HL.out.1 HL.out.2.1 HL.out.2.2)
  refine HQ.out.mono ?_; rintro e0 w5 ⟨rfl, w6, hb, rfl⟩
  have HR6 := Lib.hid (HR1.out.below hb)
  have k1 := HR6.out.c1
  obtain ⟨q1, q2, q3, q4⟩ := fin_bits (S := S) (n := 7) (s := s) h.out.bu h.out.bv B2.out h.out.inv h.out.ok (by decide) HST.out
  have R6 := HR6.out.num 1 (v ||| (u &&& (18446744073709551615 - y))) (by decide)
  rw [if_neg (by decide), if_pos rfl, if_neg (by decide)] at R6
  have HF : Hid (RetZ (.bool true) b e p t ce cp ct (comeF (S.setSt 7 0) 7) w1 (.returned (.bool true)) (w6.setCell ⟨b, 1, none⟩ (.int .u64 ((v ||| (u &&& (18446744073709551615 - y)) : Nat) : Int)))) :=
    ⟨rfl, ⟨_, _, _, raw_congr R6 (come_same2 S _).1 (come_same2 S _).2.1 (come_same2 S _).2.2, q3, q1, q2, (h.out.ok.setSt 7 0 (by decide)).come 7, q4⟩, cw_trans (cw_trans HC1.out (cw_below hb)) (cw_set b e p t w6 b 1 _ (.inl rfl) (by rw [k1]; rfl))⟩
  clear R6 k1 q1 q2 q3 q4 hb HR1 HC1 HB0 H0
  go_wp2_with fail
  go_ret
  exact HF.out
set_option maxRecDepth 100000 in
theorem finr_080 (b e p t ce cp ct u v s : Nat) (S : St) (w : World) (h : Hid (IsRP w b e p t ce cp ct u v s S)) (x : Nat) (hx : x % 4294967296 = 8) (hf : (S.st 8 == 2 && takeB S 0 8) = false) : Calls Tryz.prog 40 #[.pointer (some ⟨b, 0, none⟩), .int .u64 2097156, .int .i64 4, .int .u64 x] w (RetZ (.bool true) b e p t ce cp ct S w) := by
  obtain ⟨X1, X2, X3⟩ := ctxs_0
  have y1 : (x : Int) % 4294967296 = 8 := by omega
  have y2 : (x : Int).tmod 4294967296 = 8 := by rw [Int.tmod_eq_emod_of_nonneg (by omega)]; exact y1
  have hu := h.out.bu.lt; have hv := h.out.bv.lt; have hs := h.out.bs.lt
  obtain ⟨m, r, b1, s1, hT2⟩ := fin_tst h.out 0 8 256 (by decide) (by decide) rfl hf
  clear hx
  have K0 := cell_regrown h.out.raw.c2
  have K1 := cell_regrown h.out.raw.c3
  have K2 := cell_regrown (h.out.raw.en 0 (by decide)).1
  have hce := h.out.raw.hce
  clear hf hu hv hs
  go_enter Tryz.func40, Tryz.ntmps40
  go_wp2_with fail
  refine (X1.out _).mono ?_; rintro e0 w1 ⟨rfl, q⟩; subst q
  go_wp2_with fail
  refine (X2.out _).mono ?_; rintro e0 w1 ⟨rfl, q⟩; subst q
  go_wp2_with fail
  refine (X3.out _).mono ?_; rintro e0 w1 ⟨rfl, q⟩; subst q
  go_wp2_with fail
  refine wp_region_quiet_below (by kernel_rfl) (by kernel_rfl) ?_
  repeat (go_big_quiet_step (fail))
  refine wpQuiet_nil ?_
  intro _ hw'
  obtain ⟨⟨dq, osq⟩, hw''⟩ := hw'
  subst hw''
  have hb := below_regrown w1 dq osq
  have H0 := Lib.hid (h.out.raw.below hb)
  have HB0 := Lib.hid (cw_below (T := own4 b e p t) hb)
  have HF : Hid (RetZ (.bool true) b e p t ce cp ct S w1 (.returned (.bool true)) (grow (redrawn w1 dq) osq)) := ⟨rfl, ⟨_, _, _, h.out.below hb⟩, HB0.out⟩
  generalize grow (redrawn w1 dq) osq = w2 at *
  clear K0 K1 K2 H0 HB0 hb h
  go_wp2_with fail
  go_ret
  exact HF.out
set_option maxRecDepth 100000 in
theorem finr_081 (b e p t ce cp ct u v s : Nat) (S : St) (w : World) (h : Hid (IsRP w b e p t ce cp ct u v s S)) (x : Nat) (hx : x % 4294967296 = 8) (hf : (S.st 8 == 2 && takeB S 0 8) = true) : Calls Tryz.prog 40 #[.pointer (some ⟨b, 0, none⟩), .int .u64 2097156, .int .i64 4, .int .u64 x] w (RetZ (.bool true) b e p t ce cp ct (comeF (S.setSt 8 0) 8) w) := by
  obtain ⟨X1, X2, X3⟩ := ctxs_0
  have y1 : (x : Int) % 4294967296 = 8 := by omega
  have y2 : (x : Int).tmod 4294967296 = 8 := by rw [Int.tmod_eq_emod_of_nonneg (by omega)]; exact y1
  have hu := h.out.bu.lt; have hv := h.out.bv.lt; have hs := h.out.bs.lt
  obtain ⟨m, r, b1, s1, hT2⟩ := fin_tst h.out 0 8 256 (by decide) (by decide) rfl hf
  clear hx
  have K0 := cell_regrown h.out.raw.c2
  have K1 := cell_regrown h.out.raw.c3
  have K2 := cell_regrown (h.out.raw.en 0 (by decide)).1
  have hce := h.out.raw.hce
  have HST : Hid (S.st 8 = 2) := by
    have h1 : (S.st 8 == 2) = true := by
      cases q : S.st 8 == 2 with
      | true => rfl
      | false => rw [q] at hf; exact absurd hf (by simp)
    exact Lib.hid (by simpa using h1)
  have a2 : bits .andNot .u64 (s : Int) 256 = ((s &&& 18446744073709551615 - 256 : Nat) : Int) := andNot64 s 256 (by omega) (by decide)
  have B2 := Lib.hid (h.out.bs.off (n := 8) (by decide))
  rw [show (18446744073709551615 - 2 ^ 8 : Nat) = 18446744073709551615 - 256 from rfl] at B2
  obtain ⟨y, hy⟩ : ∃ y, y = s &&& 18446744073709551615 - 256 := ⟨_, rfl⟩
  rw [← hy] at a2 B2
  have HL : Hid (u < 512 ∧ v < 512 ∧ y < 512) := ⟨hu, hv, B2.out.lt⟩
  clear hy hf hu hv hs
  go_enter Tryz.func40, Tryz.ntmps40
  go_wp2_with fail
  refine (X1.out _).mono ?_; rintro e0 w1 ⟨rfl, q⟩; subst q
  go_wp2_with fail
  refine (X2.out _).mono ?_; rintro e0 w1 ⟨rfl, q⟩; subst q
  go_wp2_with fail
  refine (X3.out _).mono ?_; rintro e0 w1 ⟨rfl, q⟩; subst q
  go_wp2_with fail
  refine wp_region_quiet_below (by kernel_rfl) (by kernel_rfl) ?_
  repeat (go_big_quiet_step (fail))
  refine wpQuiet_nil ?_
  intro _ hw'
  obtain ⟨⟨dq, osq⟩, hw''⟩ := hw'
  subst hw''
  have hb := below_regrown w1 dq osq
  have H0 := Lib.hid (h.out.raw.below hb)
  have HB0 := Lib.hid (cw_below (T := own4 b e p t) hb)
  generalize grow (redrawn w1 dq) osq = w2 at *
  clear K0 K1 K2 hb
  have k2 := H0.out.c2
  have f2 := H0.out.fb 2
  have HC1 := Lib.hid (cw_trans HB0.out (cw_set b e p t w2 b 2 (.int .u64 (y : Nat)) (.inl rfl) (by rw [k2]; rfl)))
  have R1 := H0.out.num 2 y (by decide)
  rw [if_neg (by decide), if_neg (by decide), if_pos rfl] at R1
  have HR1 := Lib.hid R1
  clear R1
  go_wp2_with fail
  clear k2 f2
  generalize w2.setCell ⟨b, 2, none⟩ (.int .u64 (y : Nat)) = w4 at *
  have HQ := Lib.hid (come_raw b e p t ce cp ct u v y S w4 HR1 HL.out.1 HL.out.2.1 HL.out.2.2)
  refine HQ.out.mono ?_; rintro e0 w5 ⟨rfl, w6, hb, rfl⟩
  have HR6 := Lib.hid (HR1.out.below hb)
  have k1 := HR6.out.c1
  obtain ⟨q1, q2, q3, q4⟩ := fin_bits (S := S) (n := 8) (s := s) h.out.bu h.out.bv B2.out h.out.inv h.out.ok (by decide) HST.out
  have R6 := HR6.out.num 1 (v ||| (u &&& (18446744073709551615 - y))) (by decide)
  rw [if_neg (by decide), if_pos rfl, if_neg (by decide)] at R6
  have HF : Hid (RetZ (.bool true) b e p t ce cp ct (comeF (S.setSt 8 0) 8) w1 (.returned (.bool true)) (w6.setCell ⟨b, 1, none⟩ (.int .u64 ((v ||| (u &&& (18446744073709551615 - y)) : Nat) : Int)))) :=
    ⟨rfl, ⟨_, _, _, raw_congr R6 (come_same2 S _).1 (come_same2 S _).2.1 (come_same2 S _).2.2, q3, q1, q2, (h.out.ok.setSt 8 0 (by decide)).come 8, q4⟩, cw_trans (cw_trans HC1.out (cw_below hb)) (cw_set b e p t w6 b 1 _ (.inl rfl) (by rw [k1]; rfl))⟩
  clear R6 k1 q1 q2 q3 q4 hb HR1 HC1 HB0 H0
  go_wp2_with fail
  go_ret
  exact HF.out
set_option maxRecDepth 100000 in
theorem finr_110 (b e p t ce cp ct u v s : Nat) (S : St) (w : World) (h : Hid (IsRP w b e p t ce cp ct u v s S)) (x : Nat) (hx : x % 4294967296 = 1) (hf : (S.st 1 == 2 && takeB S 1 1) = false) : Calls Tryz.prog 40 #[.pointer (some ⟨b, 0, none⟩), .int .u64 2101252, .int .i64 4, .int .u64 x] w (RetZ (.bool true) b e p t ce cp ct S w) := by
  obtain ⟨X1, X2, X3⟩ := ctxs_1
  have y1 : (x : Int) % 4294967296 = 1 := by omega
  have y2 : (x : Int).tmod 4294967296 = 1 := by rw [Int.tmod_eq_emod_of_nonneg (by omega)]; exact y1
  have hu := h.out.bu.lt; have hv := h.out.bv.lt; have hs := h.out.bs.lt
  obtain ⟨m, r, b1, s1, hT2⟩ := fin_tst h.out 1 1 2 (by decide) (by decide) rfl hf
  clear hx
  have K0 := cell_regrown h.out.raw.c2
  have K1 := cell_regrown h.out.raw.c3
  have K2 := cell_regrown (h.out.raw.en 1 (by decide)).1
  have hce := h.out.raw.hce
  clear hf hu hv hs
  go_enter Tryz.func40, Tryz.ntmps40
  go_wp2_with fail
  refine (X1.out _).mono ?_; rintro e0 w1 ⟨rfl, q⟩; subst q
  go_wp2_with fail
  refine (X2.out _).mono ?_; rintro e0 w1 ⟨rfl, q⟩; subst q
  go_wp2_with fail
  refine (X3.out _).mono ?_; rintro e0 w1 ⟨rfl, q⟩; subst q
  go_wp2_with fail
  refine wp_region_quiet_below (by kernel_rfl) (by kernel_rfl) ?_
  repeat (go_big_quiet_step (fail))
  refine wpQuiet_nil ?_
  intro _ hw'
  obtain ⟨⟨dq, osq⟩, hw''⟩ := hw'
  subst hw''
  have hb := below_regrown w1 dq osq
  have H0 := Lib.hid (h.out.raw.below hb)
  have HB0 := Lib.hid (cw_below (T := own4 b e p t) hb)
  have HF : Hid (RetZ (.bool true) b e p t ce cp ct S w1 (.returned (.bool true)) (grow (redrawn w1 dq) osq)) := ⟨rfl, ⟨_, _, _, h.out.below hb⟩, HB0.out⟩
  generalize grow (redrawn w1 dq) osq = w2 at *
  clear K0 K1 K2 H0 HB0 hb h
  go_wp2_with fail
  go_ret
  exact HF.out
set_option maxRecDepth 100000 in
theorem finr_111 (b e p t ce cp ct u v s : Nat) (S : St) (w : World) (h : Hid (IsRP w b e p t ce cp ct u v s S)) (x : Nat) (hx : x % 4294967296 = 1) (hf : (S.st 1 == 2 && takeB S 1 1) = true) : Calls Tryz.prog 40 #[.pointer (some ⟨b, 0, none⟩), .int .u64 2101252, .int .i64 4, .int .u64 x] w (RetZ (.bool true) b e p t ce cp ct (comeF (S.setSt 1 0) 1) w) := by
  obtain ⟨X1, X2, X3⟩ := ctxs_1
  have y1 : (x : Int) % 4294967296 = 1 := by omega
  have y2 : (x : Int).tmod 4294967296 = 1 := by rw [Int.tmod_eq_emod_of_nonneg (by omega)]; exact y1
  have hu := h.out.bu.lt; have hv := h.out.bv.lt; have hs := h.out.bs.lt
  obtain ⟨m, r, b1, s1, hT2⟩ := fin_tst h.out 1 1 2 (by decide) (by decide) rfl hf
  clear hx
  have K0 := cell_regrown h.out.raw.c2
  have K1 := cell_regrown h.out.raw.c3
  have K2 := cell_regrown (h.out.raw.en 1 (by decide)).1
  have hce := h.out.raw.hce
  have HST : Hid (S.st 1 = 2) := by
    have h1 : (S.st 1 == 2) = true := by
      cases q : S.st 1 == 2 with
      | true => rfl
      | false => rw [q] at hf; exact absurd hf (by simp)
    exact Lib.hid (by simpa using h1)
  have a2 : bits .andNot .u64 (s : Int) 2 = ((s &&& 18446744073709551615 - 2 : Nat) : Int) := andNot64 s 2 (by omega) (by decide)
  have B2 := Lib.hid (h.out.bs.off (n := 1) (by decide))
  rw [show (18446744073709551615 - 2 ^ 1 : Nat) = 18446744073709551615 - 2 from rfl] at B2
  obtain ⟨y, hy⟩ : ∃ y, y = s &&& 18446744073709551615 - 2 := ⟨_, rfl⟩
  rw [← hy] at a2 B2
  have HL : Hid (u < 512 ∧ v < 512 ∧ y < 512) := ⟨hu, hv, B2.out.lt⟩
  clear hy hf hu hv hs
  go_enter Tryz.func40, Tryz.ntmps40
  go_wp2_with fail
  refine (X1.out _).mono ?_; rintro e0 w1 ⟨rfl, q⟩; subst q
  go_wp2_with fail
  refine (X2.out _).mono ?_; rintro e0 w1 ⟨rfl, q⟩; subst q
  go_wp2_with fail
  refine (X3.out _).mono ?_; rintro e0 w1 ⟨rfl, q⟩; subst q
  go_wp2_with fail
  refine wp_region_quiet_below (by kernel_rfl) (by kernel_rfl) ?_
  repeat (go_big_quiet_step (fail))
  refine wpQuiet_nil ?_
  intro _ hw'
  obtain ⟨⟨dq, osq⟩, hw''⟩ := hw'
  subst hw''
  have hb := below_regrown w1 dq osq
  have H0 := Lib.hid (h.out.raw.below hb)
  have HB0 := Lib.hid (cw_below (T := own4 b e p t) hb)
  generalize grow (redrawn w1 dq) osq = w2 at *
  clear K0 K1 K2 hb
  have k2 := H0.out.c2
  have f2 := H0.out.fb 2
  have HC1 := Lib.hid (cw_trans HB0.out (cw_set b e p t w2 b 2 (.int .u64 (y : Nat)) (.inl rfl) (by rw [k2]; rfl)))
  have R1 := H0.out.num 2 y (by decide)
  rw [if_neg (by decide), if_neg (by decide), if_pos rfl] at R1
  have HR1 := Lib.hid R1
  clear R1
  go_wp2_with fail
  clear k2 f2
  generalize w2.setCell ⟨b, 2, none⟩ (.int .u64 (y : Nat)) = w4 at *
  have HQ := Lib.hid (come_raw b e p t ce cp ct u v y S w4 HR1 HL.out.1 HL.out.2.1 HL.out.2.2)
  refine HQ.out.mono ?_; rintro e0 w5 ⟨rfl, w6, hb, rfl⟩
  have HR6 := Lib.hid (HR1.out.below hb)
  have k1 := HR6.out.c1
  obtain ⟨q1, q2, q3, q4⟩ := fin_bits (S := S) (n := 1) (s := s) h.out.bu h.out.bv B2.out h.out.inv h.out.ok (by decide) HST.out
  have R6 := HR6.out.num 1 (v ||| (u &&& (18446744073709551615 - y))) (by decide)
  rw [if_neg (by decide), if_pos rfl, if_neg (by decide)] at R6
  have HF : Hid (RetZ (.bool true) b e p t ce cp ct (comeF (S.setSt 1 0) 1) w1 (.returned (.bool true)) (w6.setCell ⟨b, 1, none⟩ (.int .u64 ((v ||| (u &&& (18446744073709551615 - y)) : Nat) : Int)))) :=
    ⟨rfl, ⟨_, _, _, raw_congr R6 (come_same2 S _).1 (come_same2 S _).2.1 (come_same2 S _).2.2, q3, q1, q2, (h.out.ok.setSt 1 0 (by decide)).come 1, q4⟩, cw_trans (cw_trans HC1.out (cw_below hb)) (cw_set b e p t w6 b 1 _ (.inl rfl) (by rw [k1]; rfl))⟩
  clear R6 k1 q1 q2 q3 q4 hb HR1 HC1 HB0 H0
  go_wp2_with fail
  go_ret
  exact HF.out
set_option maxRecDepth 100000 in
theorem finr_120 (b e p t ce cp ct u v s : Nat) (S : St) (w : World) (h : Hid (IsRP w b e p t ce cp ct u v s S)) (x : Nat) (hx : x % 4294967296 = 2) (hf : (S.st 2 == 2 && takeB S 1 2) = false) : Calls Tryz.prog 40 #[.pointer (some ⟨b, 0, none⟩), .int .u64 2101252, .int .i64 4, .int .u64 x] w (RetZ (.bool true) b e p t ce cp ct S w) := by
  obtain ⟨X1, X2, X3⟩ := ctxs_1
  have y1 : (x : Int) % 4294967296 = 2 := by omega
  have y2 : (x : Int).tmod 4294967296 = 2 := by rw [Int.tmod_eq_emod_of_nonneg (by omega)]; exact y1
  have hu := h.out.bu.lt; have hv := h.out.bv.lt; have hs := h.out.bs.lt
  obtain ⟨m, r, b1, s1, hT2⟩ := fin_tst h.out 1 2 4 (by decide) (by decide) rfl hf
  clear hx
  have K0 := cell_regrown h.out.raw.c2
  have K1 := cell_regrown h.out.raw.c3
  have K2 := cell_regrown (h.out.raw.en 1 (by decide)).1
  have hce := h.out.raw.hce
  clear hf hu hv hs
  go_enter Tryz.func40, Tryz.ntmps40
  go_wp2_with fail
  refine (X1.out _).mono ?_; rintro e0 w1 ⟨rfl, q⟩; subst q
  go_wp2_with fail
  refine (X2.out _).mono ?_; rintro e0 w1 ⟨rfl, q⟩; subst q
  go_wp2_with fail
  refine (X3.out _).mono ?_; rintro e0 w1 ⟨rfl, q⟩; subst q
  go_wp2_with fail
  refine wp_region_quiet_below (by kernel_rfl) (by kernel_rfl) ?_
  repeat (go_big_quiet_step (fail))
  refine wpQuiet_nil ?_
  intro _ hw'
  obtain ⟨⟨dq, osq⟩, hw''⟩ := hw'
  subst hw''
  have hb := below_regrown w1 dq osq
  have H0 := Lib.hid (h.out.raw.below hb)
  have HB0 := Lib.hid (cw_below (T := own4 b e p t) hb)
  have HF : Hid (RetZ (.bool true) b e p t ce cp ct S w1 (.returned (.bool true)) (grow (redrawn w1 dq) osq)) := ⟨rfl, ⟨_, _, _, h.out.below hb⟩, HB0.out⟩
  generalize grow (redrawn w1 dq) osq = w2 at *
  clear K0 K1 K2 H0 HB0 hb h
  go_wp2_with fail
  go_ret
  exact HF.out
set_option maxRecDepth 100000 in
theorem finr_121 (b e p t ce cp ct u v s : Nat) (S : St) (w : World) (h : Hid (IsRP w b e p t ce cp ct u v s S)) (x : Nat) (hx : x % 4294967296 = 2) (hf : (S.st 2 == 2 && takeB S 1 2) = true) : Calls Tryz.prog 40 #[.pointer (some ⟨b, 0, none⟩), .int .u64 2101252, .int .i64 4, .int .u64 x] w (RetZ (.bool true) b e p t ce cp ct (comeF (S.setSt 2 0) 2) w) := by
  obtain ⟨X1, X2, X3⟩ := ctxs_1
  have y1 : (x : Int) % 4294967296 = 2 := by omega
  have y2 : (x : Int).tmod 4294967296 = 2 := by rw [Int.tmod_eq_emod_of_nonneg (by omega)]; exact y1
  have hu := h.out.bu.lt; have hv := h.out.bv.lt; have hs := h.out.bs.lt
  obtain ⟨m, r, b1, s1, hT2⟩ := fin_tst h.out 1 2 4 (by decide) (by decide) rfl hf
  clear hx
  have K0 := cell_regrown h.out.raw.c2
  have K1 := cell_regrown h.out.raw.c3
  have K2 := cell_regrown (h.out.raw.en 1 (by decide)).1
  have hce := h.out.raw.hce
  have HST : Hid (S.st 2 = 2) := by
    have h1 : (S.st 2 == 2) = true := by
      cases q : S.st 2 == 2 with
      | true => rfl
      | false => rw [q] at hf; exact absurd hf (by simp)
    exact Lib.hid (by simpa using h1)
  have a2 : bits .andNot .u64 (s : Int) 4 = ((s &&& 18446744073709551615 - 4 : Nat) : Int) := andNot64 s 4 (by omega) (by decide)
  have B2 := Lib.hid (h.out.bs.off (n := 2) (by decide))
  rw [show (18446744073709551615 - 2 ^ 2 : Nat) = 18446744073709551615 - 4 from rfl] at B2
  obtain ⟨y, hy⟩ : ∃ y, y = s &&& 18446744073709551615 - 4 := ⟨_, rfl⟩
  rw [← hy] at a2 B2
  have HL : Hid (u < 512 ∧ v < 512 ∧ y < 512) := ⟨hu, hv, B2.out.lt⟩
  clear hy hf hu hv hs
  go_enter Tryz.func40, Tryz.ntmps40
  go_wp2_with fail
  refine (X1.out _).mono ?_; rintro e0 w1 ⟨rfl, q⟩; subst q
  go_wp2_with fail
  refine (X2.out _).mono ?_; rintro e0 w1 ⟨rfl, q⟩; subst q
  go_wp2_with fail
  refine (X3.out _).mono ?_; rintro e0 w1 ⟨rfl, q⟩; subst q
  go_wp2_with fail
  refine wp_region_quiet_below (by kernel_rfl) (by kernel_rfl) ?_
  repeat (go_big_quiet_step (fail))
  refine wpQuiet_nil ?_
  intro _ hw'
  obtain ⟨⟨dq, osq⟩, hw''⟩ := hw'
  subst hw''
  have hb := below_regrown w1 dq osq
  have H0 := Lib.hid (h.out.raw.below hb)
  have HB0 := Lib.hid (cw_below (T := own4 b e p t) hb)
  generalize grow (redrawn w1 dq) osq = w2 at *
  clear K0 K1 K2 hb
  have k2 := H0.out.c2
  have f2 := H0.out.fb 2
  have HC1 := Lib.hid (cw_trans HB0.out (cw_set b e p t w2 b 2 (.int .u64 (y : Nat)) (.inl rfl) (by rw [k2]; rfl)))
  have R1 := H0.out.num 2 y (by decide)
  rw [if_neg (by decide), if_neg (by decide), if_pos rfl] at R1
  have HR1 := Lib.hid R1
  clear R1
  go_wp2_with fail
  clear k2 f2
  generalize w2.setCell ⟨b, 2, none⟩ (.int .u64 (y : Nat)) = w4 at *
  have HQ := Lib.hid (come_raw b e p t ce cp ct u v y S w4 HR1 HL.out.1 HL.out.2.1 HL.out.2.2)
  refine HQ.out.mono ?_; rintro e0 w5 ⟨rfl, w6, hb, rfl⟩
  have HR6 := Lib.hid (HR1.out.below hb)
  have k1 := HR6.out.c1
  obtain ⟨q1, q2, q3, q4⟩ := fin_bits (S := S) (n := 2) (s := s) h.out.bu h.out.bv B2.out h.out.inv h.out.ok (by decide) HST.out
  have R6 := HR6.out.num 1 (v ||| (u &&& (18446744073709551615 - y))) (by decide)
  rw [if_neg (by decide), if_pos rfl, if_neg (by decide)] at R6
  have HF : Hid (RetZ (.bool true) b e p t ce cp ct (comeF (S.setSt 2 0) 2) w1 (.returned (.bool true)) (w6.setCell ⟨b, 1, none⟩ (.int .u64 ((v ||| (u &&& (18446744073709551615 - y)) : Nat) : Int)))) :=
    ⟨rfl, ⟨_, _, _, raw_congr R6 (come_same2 S _).1 (come_same2 S _).2.1 (come_same2 S _).2.2, q3, q1, q2, (h.out.ok.setSt 2 0 (by decide)).come 2, q4⟩, cw_trans (cw_trans HC1.out (cw_below hb)) (cw_set b e p t w6 b 1 _ (.inl rfl) (by rw [k1]; rfl))⟩
  clear R6 k1 q1 q2 q3 q4 hb HR1 HC1 HB0 H0
  go_wp2_with fail
  go_ret
  exact HF.out
set_option maxRecDepth 100000 in
theorem finr_130 (b e p t ce cp ct u v s : Nat) (S : St) (w : World) (h : Hid (IsRP w b e p t ce cp ct u v s S)) (x : Nat) (hx : x % 4294967296 = 3) (hf : (S.st 3 == 2 && takeB S 1 3) = false) : Calls Tryz.prog 40 #[.pointer (some ⟨b, 0, none⟩), .int .u64 2101252, .int .i64 4, .int .u64 x] w (RetZ (.bool true) b e p t ce cp ct S w) := by
  obtain ⟨X1, X2, X3⟩ := ctxs_1
  have y1 : (x : Int) % 4294967296 = 3 := by omega
  have y2 : (x : Int).tmod 4294967296 = 3 := by rw [Int.tmod_eq_emod_of_nonneg (by omega)]; exact y1
  have hu := h.out.bu.lt; have hv := h.out.bv.lt; have hs := h.out.bs.lt
  obtain ⟨m, r, b1, s1, hT2⟩ := fin_tst h.out 1 3 8 (by decide) (by decide) rfl hf
  clear hx
  have K0 := cell_regrown h.out.raw.c2
  have K1 := cell_regrown h.out.raw.c3
  have K2 := cell_regrown (h.out.raw.en 1 (by decide)).1
  have hce := h.out.raw.hce
  clear hf hu hv hs
  go_enter Tryz.func40, Tryz.ntmps40
  go_wp2_with fail
  refine (X1.out _).mono ?_; rintro e0 w1 ⟨rfl, q⟩; subst q
  go_wp2_with fail
  refine (X2.out _).mono ?_; rintro e0 w1 ⟨rfl, q⟩; subst q
  go_wp2_with fail
  refine (X3.out _).mono ?_; rintro e0 w1 ⟨rfl, q⟩; subst q
  go_wp2_with fail
  refine wp_region_quiet_below (by kernel_rfl) (by kernel_rfl) ?_
  repeat (go_big_quiet_step (fail))
  refine wpQuiet_nil ?_
  intro _ hw'
  obtain ⟨⟨dq, osq⟩, hw''⟩ := hw'
  subst hw''
  have hb := below_regrown w1 dq osq
  have H0 := Lib.hid (h.out.raw.below hb)
  have HB0 := Lib.hid (cw_below (T := own4 b e p t) hb)
  have HF : Hid (RetZ (.bool true) b e p t ce cp ct S w1 (.returned (.bool true)) (grow (redrawn w1 dq) osq)) := ⟨rfl, ⟨_, _, _, h.out.below hb⟩, HB0.out⟩
  generalize grow (redrawn w1 dq) osq = w2 at *
  clear K0 K1 K2 H0 HB0 hb h
  go_wp2_with fail
  go_ret
  exact HF.out
set_option maxRecDepth 100000 in
theorem finr_131 (b e p t ce cp ct u v s : Nat) (S : St) (w : World) (h : Hid (IsRP w b e p t ce cp ct u v s S)) (x : Nat) (hx : x % 4294967296 = 3) (hf : (S.st 3 == 2 && takeB S 1 3) = true) : Calls Tryz.prog 40 #[.pointer (some ⟨b, 0, none⟩), .int .u64 2101252, .int .i64 4, .int .u64 x] w (RetZ (.bool true) b e p t ce cp ct (comeF (S.setSt 3 0) 3) w) := by
  obtain ⟨X1, X2, X3⟩ := ctxs_1
  have y1 : (x : Int) % 4294967296 = 3 := by omega
  have y2 : (x : Int).tmod 4294967296 = 3 := by rw [Int.tmod_eq_emod_of_nonneg (by omega)]; exact y1
  have hu := h.out.bu.lt; have hv := h.out.bv.lt; have hs := h.out.bs.lt
  obtain ⟨m, r, b1, s1, hT2⟩ := fin_tst h.out 1 3 8 (by decide) (by decide) rfl hf
  clear hx
  have K0 := cell_regrown h.out.raw.c2
  have K1 := cell_regrown h.out.raw.c3
  have K2 := cell_regrown (h.out.raw.en 1 (by decide)).1
  have hce := h.out.raw.hce
  have HST : Hid (S.st 3 = 2) := by
    have h1 : (S.st 3 == 2) = true := by
      cases q : S.st 3 == 2 with
      | true => rfl
      | false => rw [q] at hf; exact absurd hf (by simp)
    exact Lib.hid (by simpa using h1)
  have a2 : bits .andNot .u64 (s : Int) 8 = ((s &&& 18446744073709551615 - 8 : Nat) : Int) := andNot64 s 8 (by omega) (by decide)
  have B2 := Lib.hid (h.out.bs.off (n := 3) (by decide))
  rw [show (18446744073709551615 - 2 ^ 3 : Nat) = 18446744073709551615 - 8 from rfl] at B2
  obtain ⟨y, hy⟩ : ∃ y, y = s &&& 18446744073709551615 - 8 := ⟨_, rfl⟩
  rw [← hy] at a2 B2
  have HL : Hid (u < 512 ∧ v < 512 ∧ y < 512) := ⟨hu, hv, B2.out.lt⟩
  clear hy hf hu hv hs
  go_enter Tryz.func40, Tryz.ntmps40
  go_wp2_with fail
  refine (X1.out _).mono ?_; rintro e0 w1 ⟨rfl, q⟩; subst q
  go_wp2_with fail
  refine (X2.out _).mono ?_; rintro e0 w1 ⟨rfl, q⟩; subst q
  go_wp2_with fail
  refine (X3.out _).mono ?_; rintro e0 w1 ⟨rfl, q⟩; subst q
  go_wp2_with fail
  refine wp_region_quiet_below (by kernel_rfl) (by kernel_rfl) ?_
  repeat (go_big_quiet_step (fail))
  refine wpQuiet_nil ?_
  intro _ hw'
  obtain ⟨⟨dq, osq⟩, hw''⟩ := hw'
  subst hw''
  have hb := below_regrown w1 dq osq
  have H0 := Lib.hid (h.out.raw.below hb)
  have HB0 := Lib.hid (cw_below (T := own4 b e p t) hb)
  generalize grow (redrawn w1 dq) osq = w2 at *
  clear K0 K1 K2 hb
  have k2 := H0.out.c2
  have f2 := H0.out.fb 2
  have HC1 := Lib.hid (cw_trans HB0.out (cw_set b e p t w2 b 2 (.int .u64 (y : Nat)) (.inl rfl) (by rw [k2]; rfl)))
  have R1 := H0.out.num 2 y (by decide)
  rw [if_neg (by decide), if_neg (by decide), if_pos rfl] at R1
  have HR1 := Lib.hid R1
  clear R1
  go_wp2_with fail
  clear k2 f2
  generalize w2.setCell ⟨b, 2, none⟩ (.int .u64 (y : Nat)) = w4 at *
  have HQ := Lib.hid (come_raw b e p t ce cp ct u v y S w4 HR1 HL.out.1 HL.out.2.1 HL.out.2.2)
  refine HQ.out.mono ?_; rintro e0 w5 ⟨rfl, w6, hb, rfl⟩
  have HR6 := Lib.hid (HR1.out.below hb)
  have k1 := HR6.out.c1
  obtain ⟨q1, q2, q3, q4⟩ := fin_bits (S := S) (n := 3) (s := s) h.out.bu h.out.bv B2.out h.out.inv h.out.ok (by decide) HST.out
  have R6 := HR6.out.num 1 (v ||| (u &&& (18446744073709551615 - y))) (by decide)
  rw [if_neg (by decide), if_pos rfl, if_neg (by decide)] at R6
  have HF : Hid (RetZ (.bool true) b e p t ce cp ct (comeF (S.setSt 3 0) 3) w1 (.returned (.bool true)) (w6.setCell ⟨b, 1, none⟩ (.int .u64 ((v ||| (u &&& (18446744073709551615 - y)) : Nat) : Int)))) :=
    ⟨rfl, ⟨_, _, _, raw_congr R6 (come_same2 S _).1 (come_same2 S _).2.1 (come_same2 S _).2.2, q3, q1, q2, (h.out.ok.setSt 3 0 (by decide)).come 3, q4⟩, cw_trans (cw_trans HC1.out (cw_below hb)) (cw_set b e p t w6 b 1 _ (.inl rfl) (by rw [k1]; rfl))⟩
  clear R6 k1 q1 q2 q3 q4 hb HR1 HC1 HB0 H0
  go_wp2_with fail
  go_ret
  exact HF.out
set_option maxRecDepth 100000 in
theorem finr_140 (b e p t ce cp ct u v s : Nat) (S : St) (w : World) (h : Hid (IsRP w b e p t ce cp ct u v s S)) (x : Nat) (hx : x % 4294967296 = 4) (hf : (S.st 4 == 2 && takeB S 1 4) = false) : Calls Tryz.prog 40 #[.pointer (some ⟨b, 0, none⟩), .int .u64 2101252, .int .i64 4, .int .u64 x] w (RetZ (.bool true) b e p t ce cp ct S w) := by
  obtain ⟨X1, X2, X3⟩ := ctxs_1
  have y1 : (x : Int) % 4294967296 = 4 := by omega
  have y2 : (x : Int).tmod 4294967296 = 4 := by rw [Int.tmod_eq_emod_of_nonneg (by omega)]; exact y1
  have hu := h.out.bu.lt; have hv := h.out.bv.lt; have hs := h.out.bs.lt
  obtain ⟨m, r, b1, s1, hT2⟩ := fin_tst h.out 1 4 16 (by decide) (by decide) rfl hf
  clear hx
  have K0 := cell_regrown h.out.raw.c2
  have K1 := cell_regrown h.out.raw.c3
  have K2 := cell_regrown (h.out.raw.en 1 (by decide)).1
  have hce := h.out.raw.hce
  clear hf hu hv hs
  go_enter Tryz.func40, Tryz.ntmps40
  go_wp2_with fail
  refine (X1.out _).mono ?_; rintro e0 w1 ⟨rfl, q⟩; subst q
  go_wp2_with fail
  refine (X2.out _).mono ?_; rintro e0 w1 ⟨rfl, q⟩; subst q
  go_wp2_with fail
  refine (X3.out _).mono ?_; rintro e0 w1 ⟨rfl, q⟩; subst q
  go_wp2_with fail
  refine wp_region_quiet_below (by kernel_rfl) (by kernel_rfl) ?_
  repeat (go_big_quiet_step (fail))
  refine wpQuiet_nil ?_
  intro _ hw'
  obtain ⟨⟨dq, osq⟩, hw''⟩ := hw'
  subst hw''
  have hb := below_regrown w1 dq osq
  have H0 := Lib.hid (h.out.raw.below hb)
  have HB0 := Lib.hid (cw_below (T := own4 b e p t) hb)
  have HF : Hid (RetZ (.bool true) b e p t ce cp ct S w1 (.returned (.bool true)) (grow (redrawn w1 dq) osq)) := ⟨rfl, ⟨_, _, _, h.out.below hb⟩, HB0.out⟩
  generalize grow (redrawn w1 dq) osq = w2 at *
  clear K0 K1 K2 H0 HB0 hb h
  go_wp2_with fail
  go_ret
  exact HF.out
set_option maxRecDepth 100000 in
theorem finr_141 (b e p t ce cp ct u v s : Nat) (S : St) (w : World) (h : Hid (IsRP w b e p t ce cp ct u v s S)) (x : Nat) (hx : x % 4294967296 = 4) (hf : (S.st 4 == 2 && takeB S 1 4) = true) : Calls Tryz.prog 40 #[.pointer (some ⟨b, 0, none⟩), .int .u64 2101252, .int .i64 4, .int .u64 x] w (RetZ (.bool true) b e p t ce cp ct (comeF (S.setSt 4 0) 4) w) := by
  obtain ⟨X1, X2, X3⟩ := ctxs_1
  have y1 : (x : Int) % 4294967296 = 4 := by omega
  have y2 : (x : Int).tmod 4294967296 = 4 := by rw [Int.tmod_eq_emod_of_nonneg (by omega)]; exact y1
  have hu := h.out.bu.lt; have hv := h.out.bv.lt; have hs := h.out.bs.lt
  obtain ⟨m, r, b1, s1, hT2⟩ := fin_tst h.out 1 4 16 (by decide) (by decide) rfl hf
  clear hx
  have K0 := cell_regrown h.out.raw.c2
  have K1 := cell_regrown h.out.raw.c3
  have K2 := cell_regrown (h.out.raw.en 1 (by decide)).1
  have hce := h.out.raw.hce
  have HST : Hid (S.st 4 = 2) := by
    have h1 : (S.st 4 == 2) = true := by
      cases q : S.st 4 == 2 with
      | true => rfl
      | false => rw [q] at hf; exact absurd hf (by simp)
    exact Lib.hid (by simpa using h1)
  have a2 : bits .andNot .u64 (s : Int) 16 = ((s &&& 18446744073709551615 - 16 : Nat) : Int) := andNot64 s 16 (by omega) (by decide)
  have B2 := Lib.hid (h.out.bs.off (n := 4) (by decide))
  rw [show (18446744073709551615 - 2 ^ 4 : Nat) = 18446744073709551615 - 16 from rfl] at B2
  obtain ⟨y, hy⟩ : ∃ y, y = s &&& 18446744073709551615 - 16 := ⟨_, rfl⟩
  rw [← hy] at a2 B2
  have HL : Hid (u < 512 ∧ v < 512 ∧ y < 512) := ⟨hu, hv, B2.out.lt⟩
  clear hy hf hu hv hs
  go_enter Tryz.func40, Tryz.ntmps40
  go_wp2_with fail
  refine (X1.out _).mono ?_; rintro e0 w1 ⟨rfl, q⟩; subst q
  go_wp2_with fail
  refine (X2.out _).mono ?_; rintro e0 w1 ⟨rfl, q⟩; subst q
  go_wp2_with fail
  refine (X3.out _).mono ?_; rintro e0 w1 ⟨rfl, q⟩; subst q
  go_wp2_with fail
  refine wp_region_quiet_below (by kernel_rfl) (by kernel_rfl) ?_
  repeat (go_big_quiet_step (fail))
  refine wpQuiet_nil ?_
  intro _ hw'
  obtain ⟨⟨dq, osq⟩, hw''⟩ := hw'
  subst hw''
  have hb := below_regrown w1 dq osq
  have H0 := Lib.hid (h.out.raw.below hb)
  have HB0 := Lib.hid (cw_below (T := own4 b e p t) hb)
  generalize grow (redrawn w1 dq) osq = w2 at *
  clear K0 K1 K2 hb
  have k2 := H0.out.c2
  have f2 := H0.out.fb 2
  have HC1 := Lib.hid (cw_trans HB0.out (cw_set b e p t w2 b 2 (.int .u64 (y : Nat)) (.inl rfl) (by rw [k2]; rfl)))
  have R1 := H0.out.num 2 y (by decide)
  rw [if_neg (by decide), if_neg (by decide), if_pos rfl] at R1
  have HR1 := Lib.hid R1
  clear R1
  go_wp2_with fail
  clear k2 f2
  generalize w2.setCell ⟨b, 2, none⟩ (.int .u64 (y : Nat)) = w4 at *
  have HQ := Lib.hid (come_raw b e p t ce cp ct u v y S w4 HR1 HL.out.1 HL.out.2.1 HL.out.2.2)
  refine HQ.out.mono ?_; rintro e0 w5 ⟨rfl, w6, hb, rfl⟩
  have HR6 := Lib.hid (HR1.out.below hb)
  have k1 := HR6.out.c1
  obtain ⟨q1, q2, q3, q4⟩ := fin_bits (S := S) (n := 4) (s := s) h.out.bu h.out.bv B2.out h.out.inv h.out.ok (by decide) HST.out
  have R6 := HR6.out.num 1 (v ||| (u &&& (18446744073709551615 - y))) (by decide)
  rw [if_neg (by decide), if_pos rfl, if_neg (by decide)] at R6
  have HF : Hid (RetZ (.bool true) b e p t ce cp ct (comeF (S.setSt 4 0) 4) w1 (.returned (.bool true)) (w6.setCell ⟨b, 1, none⟩ (.int .u64 ((v ||| (u &&& (18446744073709551615 - y)) : Nat) : Int)))) :=
    ⟨rfl, ⟨_, _, _, raw_congr R6 (come_same2 S _).1 (come_same2 S _).2.1 (come_same2 S _).2.2, q3, q1, q2, (h.out.ok.setSt 4 0 (by decide)).come 4, q4⟩, cw_trans (cw_trans HC1.out (cw_below hb)) (cw_set b e p t w6 b 1 _ (.inl rfl) (by rw [k1]; rfl))⟩
  clear R6 k1 q1 q2 q3 q4 hb HR1 HC1 HB0 H0
  go_wp2_with fail
  go_ret
  exact HF.out
set_option maxRecDepth 100000 in
theorem finr_150 (b e p t ce cp ct u v s : Nat) (S : St) (w : World) (h : Hid (IsRP w b e p t ce cp ct u v s S)) (x : Nat) (hx : x % 4294967296 = 5) (hf : (S.st 5 == 2 && takeB S 1 5) = false) : Calls Tryz.prog 40 #[.pointer (some ⟨b, 0, none⟩), .int .u64 2101252, .int .i64 4, .int .u64 x] w (RetZ (.bool true) b e p t ce cp ct S w) := by
  obtain ⟨X1, X2, X3⟩ := ctxs_1
  have y1 : (x : Int) % 4294967296 = 5 := by omega
  have y2 : (x : Int).tmod 4294967296 = 5 := by rw [Int.tmod_eq_emod_of_nonneg (by omega)]; exact y1
  have hu := h.out.bu.lt; have hv := h.out.bv.lt; have hs := h.out.bs.lt
  obtain ⟨m, r, b1, s1, hT2⟩ := fin_tst h.out 1 5 32 (by decide) (by decide) rfl hf
  clear hx
  have K0 := cell_regrown h.out.raw.c2
  have K1 := cell_regrown h.out.raw.c3
  have K2 := cell_regrown (h.out.raw.en 1 (by decide)).1
  have hce := h.out.raw.hce
  clear hf hu hv hs
  go_enter Tryz.func40, Tryz.ntmps40
  go_wp2_with fail
  refine (X1.out _).mono ?_; rintro e0 w1 ⟨rfl, q⟩; subst q
  go_wp2_with fail
  refine (X2.out _).mono ?_; rintro e0 w1 ⟨rfl, q⟩; subst q
  go_wp2_with fail
  refine (X3.out _).mono ?_; rintro e0 w1 ⟨rfl, q⟩; subst q
  go_wp2_with fail
  refine wp_region_quiet_below (by kernel_rfl) (by kernel_rfl) ?_
  repeat (go_big_quiet_step (fail))
  refine wpQuiet_nil ?_
  intro _ hw'
  obtain ⟨⟨dq, osq⟩, hw''⟩ := hw'
  subst hw''
  have hb := below_regrown w1 dq osq
  have H0 := Lib.hid (h.out.raw.below hb)
  have HB0 := Lib.hid (cw_below (T := own4 b e p t) hb)
  have HF : Hid (RetZ (.bool true) b e p t ce cp ct S w1 (.returned (.bool true)) (grow (redrawn w1 dq) osq)) := ⟨rfl, ⟨_, _, _, h.out.below hb⟩, HB0.out⟩
  generalize grow (redrawn w1 dq) osq = w2 at *
  clear K0 K1 K2 H0 HB0 hb h
  go_wp2_with fail
  go_ret
  exact HF.out
set_option maxRecDepth 100000 in
theorem finr_151 (b e p t ce cp ct u v s : Nat) (S : St) (w : World) (h : Hid (IsRP w b e p t ce cp ct u v s S)) (x : Nat) (hx : x % 4294967296 = 5) (hf : (S.st 5 == 2 && takeB S 1 5) = true) : Calls Tryz.prog 40 #[.pointer (some ⟨b, 0, none⟩), .int .u64 2101252, .int .i64 4, .int .u64 x] w (RetZ (.bool true) b e p t ce cp ct (comeF (S.setSt 5 0) 5) w) := by
  obtain ⟨X1, X2, X3⟩ := ctxs_1
  have y1 : (x : Int) % 4294967296 = 5 := by omega
  have y2 : (x : Int).tmod 4294967296 = 5 := by rw [Int.tmod_eq_emod_of_nonneg (by omega)]; exact y1
  have hu := h.out.bu.lt; have hv := h.out.bv.lt; have hs := h.out.bs.lt
  obtain ⟨m, r, b1, s1, hT2⟩ := fin_tst h.out 1 5 32 (by decide) (by decide) rfl hf
  clear hx
  have K0 := cell_regrown h.out.raw.c2
  have K1 := cell_regrown h.out.raw.c3
  have K2 := cell_regrown (h.out.raw.en 1 (by decide)).1
  have hce := h.out.raw.hce
  have HST : Hid (S.st 5 = 2) := by
    have h1 : (S.st 5 == 2) = true := by
      cases q : S.st 5 == 2 with
      | true => rfl
      | false => rw [q] at hf; exact absurd hf (by simp)
    exact Lib.hid (by simpa using h1)
  have a2 : bits .andNot .u64 (s : Int) 32 = ((s &&& 18446744073709551615 - 32 : Nat) : Int) := andNot64 s 32 (by omega) (by decide)
  have B2 := Lib.hid (h.out.bs.off (n := 5) (by decide))
  rw [show (18446744073709551615 - 2 ^ 5 : Nat) = 18446744073709551615 - 32 from rfl] at B2
  obtain ⟨y, hy⟩ : ∃ y, y = s &&& 18446744073709551615 - 32 := ⟨_, rfl⟩
  rw [← hy] at a2 B2
  have HL : Hid (u < 512 ∧ v < 512 ∧ y < 512) := ⟨hu, hv, B2.out.lt⟩
  clear hy hf hu hv hs
  go_enter Tryz.func40, Tryz.ntmps40
  go_wp2_with fail
  refine (X1.out _).mono ?_; rintro e0 w1 ⟨rfl, q⟩; subst q
  go_wp2_with fail
  refine (X2.out _).mono ?_; rintro e0 w1 ⟨rfl, q⟩; subst q
  go_wp2_with fail
  refine (X3.out _).mono ?_; rintro e0 w1 ⟨rfl, q⟩; subst q
  go_wp2_with fail
  refine wp_region_quiet_below (by kernel_rfl) (by kernel_rfl) ?_
  repeat (go_big_quiet_step (fail))
  refine wpQuiet_nil ?_
  intro _ hw'
  obtain ⟨⟨dq, osq⟩, hw''⟩ := hw'
  subst hw''
  have hb := below_regrown w1 dq osq
  have H0 := Lib.hid (h.out.raw.below hb)
  have HB0 := Lib.hid (cw_below (T := own4 b e p t) hb)
  generalize grow (redrawn w1 dq) osq = w2 at *
  clear K0 K1 K2 hb
  have k2 := H0.out.c2
  have f2 := H0.out.fb 2
  have HC1 := Lib.hid (cw_trans HB0.out (cw_set b e p t w2 b 2 (.int .u64 (y : Nat)) (.inl rfl) (by rw [k2]; rfl)))
  have R1 := H0.out.num 2 y (by decide)
  rw [if_neg (by decide), if_neg (by decide), if_pos rfl] at R1
  have HR1 := Lib.hid R1
  clear R1
  go_wp2_with fail
  clear k2 f2
  generalize w2.setCell ⟨b, 2, none⟩ (.int .u64 (y : Nat)) = w4 at *
  have HQ := Lib.hid (come_raw b e p t ce cp ct u v y S w4 HR1 HL.out.1 HL.out.2.1 HL.out.2.2)
  refine HQ.out.mono ?_; rintro e0 w5 ⟨rfl, w6, hb, rfl⟩
  have HR6 := Lib.hid (HR1.out.below hb)
  have k1 := HR6.out.c1
  obtain ⟨q1, q2, q3, q4⟩ := fin_bits (S := S) (n := 5) (s := s) h.out.bu h.out.bv B2.out h.out.inv h.out.ok (by decide) HST.out
  have R6 := HR6.out.num 1 (v ||| (u &&& (18446744073709551615 - y))) (by decide)
  rw [if_neg (by decide), if_pos rfl, if_neg (by decide)] at R6
  have HF : Hid (RetZ (.bool true) b e p t ce cp ct (comeF (S.setSt 5 0) 5) w1 (.returned (.bool true)) (w6.setCell ⟨b, 1, none⟩ (.int .u64 ((v ||| (u &&& (18446744073709551615 - y)) : Nat) : Int)))) :=
    ⟨rfl, ⟨_, _, _, raw_congr R6 (come_same2 S _).1 (come_same2 S _).2.1 (come_same2 S _).2.2, q3, q1, q2, (h.out.ok.setSt 5 0 (by decide)).come 5, q4⟩, cw_trans (cw_trans HC1.out (cw_below hb)) (cw_set b e p t w6 b 1 _ (.inl rfl) (by rw [k1]; rfl))⟩
  clear R6 k1 q1 q2 q3 q4 hb HR1 HC1 HB0 H0
  go_wp2_with fail
  go_ret
  exact HF.out
set_option maxRecDepth 100000 in
theorem finr_160 (b e p t ce cp ct u v s : Nat) (S : St) (w : World) (h : Hid (IsRP w b e p t ce cp ct u v s S)) (x : Nat) (hx : x % 4294967296 = 6) (hf : (S.st 6 == 2 && takeB S 1 6) = false) : Calls Tryz.prog 40 #[.pointer (some ⟨b, 0, none⟩), .int .u64 2101252, .int .i64 4, .int .u64 x] w (RetZ (.bool true) b e p t ce cp ct S w) := by
  obtain ⟨X1, X2, X3⟩ := ctxs_1
  have y1 : (x : Int) % 4294967296 = 6 := by omega
  have y2 : (x : Int).tmod 4294967296 = 6 := by rw [Int.tmod_eq_emod_of_nonneg (by omega)]; exact y1
  have hu := h.out.bu.lt; have hv := h.out.bv.lt; have hs := h.out.bs.lt
  obtain ⟨m, r, b1, s1, hT2⟩ := fin_tst h.out 1 6 64 (by decide) (by decide) rfl hf
  clear hx
  have K0 := cell_regrown h.out.raw.c2
  have K1 := cell_regrown h.out.raw.c3
  have K2 := cell_regrown (h.out.raw.en 1 (by decide)).1
  have hce := h.out.raw.hce
  clear hf hu hv hs
  go_enter Tryz.func40, Tryz.ntmps40
  go_wp2_with fail
  refine (X1.out _).mono ?_; rintro e0 w1 ⟨rfl, q⟩; subst q
  go_wp2_with fail
  refine (X2.out _).mono ?_; rintro e0 w1 ⟨rfl, q⟩; subst q
  go_wp2_with fail
  refine (X3.out _).mono ?_; rintro e0 w1 ⟨rfl, q⟩; subst q
  go_wp2_with fail
  refine wp_region_quiet_below (by kernel_rfl) (by kernel_rfl) ?_
  repeat (go_big_quiet_step (fail))
  refine wpQuiet_nil ?_
  intro _ hw'
  obtain ⟨⟨dq, osq⟩, hw''⟩ := hw'
  subst hw''
  have hb := below_regrown w1 dq osq
  have H0 := Lib.hid (h.out.raw.below hb)
  have HB0 := Lib.hid (cw_below (T := own4 b e p t) hb)
  have HF : Hid (RetZ (.bool true) b e p t ce cp ct S w1 (.returned (.bool true)) (grow (redrawn w1 dq) osq)) := ⟨rfl, ⟨_, _, _, h.out.below hb⟩, HB0.out⟩
  generalize grow (redrawn w1 dq) osq = w2 at *
  clear K0 K1 K2 H0 HB0 hb h
  go_wp2_with fail
  go_ret
  exact HF.out
set_option maxRecDepth 100000 in
theorem finr_161 (b e p t ce cp ct u v s : Nat) (S : St) (w : World) (h : Hid (IsRP w b e p t ce cp ct u v s S)) (x : Nat) (hx : x % 4294967296 = 6) (hf : (S.st 6 == 2 && takeB S 1 6) = true) : Calls Tryz.prog 40 #[.pointer (some ⟨b, 0, none⟩), .int .u64 2101252, .int .i64 4, .int .u64 x] w (RetZ (.bool true) b e p t ce cp ct (comeF (S.setSt 6 0) 6) w) := by
  obtain ⟨X1, X2, X3⟩ := ctxs_1
  have y1 : (x : Int) % 4294967296 = 6 := by omega
  have y2 : (x : Int).tmod 4294967296 = 6 := by rw [Int.tmod_eq_emod_of_nonneg (by omega)]; exact y1
  have hu := h.out.bu.lt; have hv := h.out.bv.lt; have hs := h.out.bs.lt
  obtain ⟨m, r, b1, s1, hT2⟩ := fin_tst h.out 1 6 64 (by decide) (by decide) rfl hf
  clear hx
  have K0 := cell_regrown h.out.raw.c2
  have K1 := cell_regrown h.out.raw.c3
  have K2 := cell_regrown (h.out.raw.en 1 (by decide)).1
  have hce := h.out.raw.hce
  have HST : Hid (S.st 6 = 2) := by
    have h1 : (S.st 6 == 2) = true := by
      cases q : S.st 6 == 2 with
      | true => rfl
      | false => rw [q] at hf; exact absurd hf (by simp)
    exact Lib.hid (by simpa using h1)
  have a2 : bits .andNot .u64 (s : Int) 64 = ((s &&& 18446744073709551615 - 64 : Nat) : Int) := andNot64 s 64 (by omega) (by decide)
  have B2 := Lib.hid (h.out.bs.off (n := 6) (by decide))
  rw [show (18446744073709551615 - 2 ^ 6 : Nat) = 18446744073709551615 - 64 from rfl] at B2
  obtain ⟨y, hy⟩ : ∃ y, y = s &&& 18446744073709551615 - 64 := ⟨_, rfl⟩
  rw [← hy] at a2 B2
  have HL : Hid (u < 512 ∧ v < 512 ∧ y < 512) := ⟨hu, hv, B2.out.lt⟩
  clear hy hf hu hv hs
  go_enter Tryz.func40, Tryz.ntmps40
  go_wp2_with fail
  refine (X1.out _).mono ?_; rintro e0 w1 ⟨rfl, q⟩; subst q
  go_wp2_with fail
  refine (X2.out _).mono ?_; rintro e0 w1 ⟨rfl, q⟩; subst q
  go_wp2_with fail
  refine (X3.out _).mono ?_; rintro e0 w1 ⟨rfl, q⟩; subst q
  go_wp2_with fail
  refine wp_region_quiet_below (by kernel_rfl) (by kernel_rfl) ?_
  repeat (go_big_quiet_step (fail))
  refine wpQuiet_nil ?_
  intro _ hw'
  obtain ⟨⟨dq, osq⟩, hw''⟩ := hw'
  subst hw''
  have hb := below_regrown w1 dq osq
  have H0 := Lib.hid (h.out.raw.below hb)
  have HB0 := Lib.hid (cw_below (T := own4 b e p t) hb)
  generalize grow (redrawn w1 dq) osq = w2 at *
  clear K0 K1 K2 hb
  have k2 := H0.out.c2
  have f2 := H0.out.fb 2
  have HC1 := Lib.hid (cw_trans HB0.out (cw_set b e p t w2 b 2 (.int .u64 (y : Nat)) (.inl rfl) (by rw [k2]; rfl)))
  have R1 := H0.out.num 2 y (by decide)
  rw [if_neg (by decide), if_neg (by decide), if_pos rfl] at R1
  have HR1 := Lib.hid R1
  clear R1
  go_wp2_with fail
  clear k2 f2
  generalize w2.setCell ⟨b, 2, none⟩ (.int .u64 (y : Nat)) = w4 at *
  have HQ := Lib.hid (come_raw b e p t ce cp ct u v y S w4 HR1 HL.out.1 HL.out.2.1 HL.out.2.2)
  refine HQ.out.mono ?_; rintro e0 w5 ⟨rfl, w6, hb, rfl⟩
  have HR6 := Lib.hid (HR1.out.below hb)
  have k1 := HR6.out.c1
  obtain ⟨q1, q2, q3, q4⟩ := fin_bits (S := S) (n := 6) (s := s) h.out.bu h.out.bv B2.out h.out.inv h.out.ok (by decide) HST.out
  have R6 := HR6.out.num 1 (v ||| (u &&& (18446744073709551615 - y))) (by decide)
  rw [if_neg (by decide), if_pos rfl, if_neg (by decide)] at R6
  have HF : Hid (RetZ (.bool true) b e p t ce cp ct (comeF (S.setSt 6 0) 6) w1 (.returned (.bool true)) (w6.setCell ⟨b, 1, none⟩ (.int .u64 ((v ||| (u &&& (18446744073709551615 - y)) : Nat) : Int)))) :=
    ⟨rfl, ⟨_, _, _, raw_congr R6 (come_same2 S _).1 (come_same2 S _).2.1 (come_same2 S _).2.2, q3, q1, q2, (h.out.ok.setSt 6 0 (by decide)).come 6, q4⟩, cw_trans (cw_trans HC1.out (cw_below hb)) (cw_set b e p t w6 b 1 _ (.inl rfl) (by rw [k1]; rfl))⟩
  clear R6 k1 q1 q2 q3 q4 hb HR1 HC1 HB0 H0
  go_wp2_with fail
  go_ret
  exact HF.out
set_option maxRecDepth 100000 in
theorem finr_170 (b e p t ce cp ct u v s : Nat) (S : St) (w : World) (h : Hid (IsRP w b e p t ce cp ct u v s S)) (x : Nat) (hx : x % 4294967296 = 7) (hf : (S.st 7 == 2 && takeB S 1 7) = false) : Calls Tryz.prog 40 #[.pointer (some ⟨b, 0, none⟩), .int .u64 2101252, .int .i64 4, .int .u64 x] w (RetZ (.bool true) b e p t ce cp ct S w) := by
  obtain ⟨X1, X2, X3⟩ := ctxs_1
  have y1 : (x : Int) % 4294967296 = 7 := by omega
  have y2 : (x : Int).tmod 4294967296 = 7 := by rw [Int.tmod_eq_emod_of_nonneg (by omega)]; exact y1
  have hu := h.out.bu.lt; have hv := h.out.bv.lt; have hs := h.out.bs.lt
  obtain ⟨m, r, b1, s1, hT2⟩ := fin_tst h.out 1 7 128 (by decide) (by decide) rfl hf
  clear hx
  have K0 := cell_regrown h.out.raw.c2
  have K1 := cell_regrown h.out.raw.c3
  have K2 := cell_regrown (h.out.raw.en 1 (by decide)).1
  have hce := h.out.raw.hce
  clear hf hu hv hs
  go_enter Tryz.func40, Tryz.ntmps40
  go_wp2_with fail
  refine (X1.out _).mono ?_; rintro e0 w1 ⟨rfl, q⟩; subst q
  go_wp2_with fail
  refine (X2.out _).mono ?_; rintro e0 w1 ⟨rfl, q⟩; subst q
  go_wp2_with fail
  refine (X3.out _).mono ?_; rintro e0 w1 ⟨rfl, q⟩; subst q
  go_wp2_with fail
  refine wp_region_quiet_below (by kernel_rfl) (by kernel_rfl) ?_
  repeat (go_big_quiet_step (fail))
  refine wpQuiet_nil ?_
  intro _ hw'
  obtain ⟨⟨dq, osq⟩, hw''⟩ := hw'
  subst hw''
  have hb := below_regrown w1 dq osq
  have H0 := Lib.hid (h.out.raw.below hb)
  have HB0 := Lib.hid (cw_below (T := own4 b e p t) hb)
  have HF : Hid (RetZ (.bool true) b e p t ce cp ct S w1 (.returned (.bool true)) (grow (redrawn w1 dq) osq)) := ⟨rfl, ⟨_, _, _, h.out.below hb⟩, HB0.out⟩
  generalize grow (redrawn w1 dq) osq = w2 at *
  clear K0 K1 K2 H0 HB0 hb h
  go_wp2_with fail
  go_ret
  exact HF.out
set_option maxRecDepth 100000 in
theorem finr_171 (b e p t ce cp ct u v s : Nat) (S : St) (w : World) (h : Hid (IsRP w b e p t ce cp ct u v s S)) (x : Nat) (hx : x % 4294967296 = 7) (hf : (S.st 7 == 2 && takeB S 1 7) = true) : Calls Tryz.prog 40 #[.pointer (some ⟨b, 0, none⟩), .int .u64 2101252, .int .i64 4, .int .u64 x] w (RetZ (.bool true) b e p t ce cp ct (comeF (S.setSt 7 0) 7) w) := by
  obtain ⟨X1, X2, X3⟩ := ctxs_1
  have y1 : (x : Int) % 4294967296 = 7 := by omega
  have y2 : (x : Int).tmod 4294967296 = 7 := by rw [Int.tmod_eq_emod_of_nonneg (by omega)]; exact y1
  have hu := h.out.bu.lt; have hv := h.out.bv.lt; have hs := h.out.bs.lt
  obtain ⟨m, r, b1, s1, hT2⟩ := fin_tst h.out 1 7 128 (by decide) (by decide) rfl hf
  clear hx
  have K0 := cell_regrown h.out.raw.c2
  have K1 := cell_regrown h.out.raw.c3
  have K2 := cell_regrown (h.out.raw.en 1 (by decide)).1
  have hce := h.out.raw.hce
  have HST : Hid (S.st 7 = 2) := by
    have h1 : (S.st 7 == 2) = true := by
      cases q : S.st 7 == 2 with
      | true => rfl
      | false => rw [q] at hf; exact absurd hf (by simp)
    exact Lib.hid (by simpa using h1)
  have a2 : bits .andNot .u64 (s : Int) 128 = ((s &&& 18446744073709551615 - 128 : Nat) : Int) := andNot64 s 128 (by omega) (by decide)
  have B2 := Lib.hid (h.out.bs.off (n := 7) (by decide))
  rw [show (18446744073709551615 - 2 ^ 7 : Nat) = 18446744073709551615 - 128 from rfl] at B2
  obtain ⟨y, hy⟩ : ∃ y, y = s &&& 18446744073709551615 - 128 := ⟨_, rfl⟩
  rw [← hy] at a2 B2
  have HL : Hid (u < 512 ∧ v < 512 ∧ y < 512) := ⟨hu, hv, B2.out.lt⟩
  clear hy hf hu hv hs
  go_enter Tryz.func40, Tryz.ntmps40
  go_wp2_with fail
  refine (X1.out _).mono ?_; rintro e0 w1 ⟨rfl, q⟩; subst q
  go_wp2_with fail
  refine (X2.out _).mono ?_; rintro e0 w1 ⟨rfl, q⟩; subst q
  go_wp2_with fail
  refine (X3.out _).mono ?_; rintro e0 w1 ⟨rfl, q⟩; subst q
  go_wp2_with fail
  refine wp_region_quiet_below (by kernel_rfl) (by kernel_rfl) ?_
  repeat (go_big_quiet_step (fail))
  refine wpQuiet_nil ?_
  intro _ hw'
  obtain ⟨⟨dq, osq⟩, hw''⟩ := hw'
  subst hw''
  have hb := below_regrown w1 dq osq
  have H0 := Lib.hid (h.out.raw.below hb)
  have HB0 := Lib.hid (cw_below (T := own4 b e p t) hb)
  generalize grow (redrawn w1 dq) osq = w2 at *
  clear K0 K1 K2 hb
  have k2 := H0.out.c2
  have f2 := H0.out.fb 2
  have HC1 := Lib.hid (cw_trans HB0.out (cw_set b e p t w2 b 2 (.int .u64 (y : Nat)) (.inl rfl) (by rw [k2]; rfl)))
  have R1 := H0.out.num 2 y (by decide)
  rw [if_neg (by decide), if_neg (by decide), if_pos rfl] at R1
  have HR1 := Lib.hid R1
  clear R1
  go_wp2_with fail
  clear k2 f2
  generalize w2.setCell ⟨b, 2, none⟩ (.int .u64 (y : Nat)) = w4 at *
  have HQ := Lib.hid (come_raw b e p t ce cp ct u v y S w4 HR1 HL.out.1 HL.out.2.1 HL.out.2.2)
  refine HQ.out.mono ?_; rintro e0 w5 ⟨rfl, w6, hb, rfl⟩
  have HR6 := Lib.hid (HR1.out.below hb)
  have k1 := HR6.out.c1
  obtain ⟨q1, q2, q3, q4⟩ := fin_bits (S := S) (n := 7) (s := s) h.out.bu h.out.bv B2.out h.out.inv h.out.ok (by decide) HST.out
  have R6 := HR6.out.num 1 (v ||| (u &&& (18446744073709551615 - y))) (by decide)
  rw [if_neg (by decide), if_pos rfl, if_neg (by decide)] at R6
  have HF : Hid (RetZ (.bool true) b e p t ce cp ct (comeF (S.setSt 7 0) 7) w1 (.returned (.bool true)) (w6.setCell ⟨b, 1, none⟩ (.int .u64 ((v ||| (u &&& (18446744073709551615 - y)) : Nat) : Int)))) :=
    ⟨rfl, ⟨_, _, _, raw_congr R6 (come_same2 S _).1 (come_same2 S _).2.1 (come_same2 S _).2.2, q3, q1, q2, (h.out.ok.setSt 7 0 (by decide)).come 7, q4⟩, cw_trans (cw_trans HC1.out (cw_below hb)) (cw_set b e p t w6 b 1 _ (.inl rfl) (by rw [k1]; rfl))⟩
  clear R6 k1 q1 q2 q3 q4 hb HR1 HC1 HB0 H0
  go_wp2_with fail
  go_ret
  exact HF.out
set_option maxRecDepth 100000 in
theorem finr_180 (b e p t ce cp ct u v s : Nat) (S : St) (w : World) (h : Hid (IsRP w b e p t ce cp ct u v s S)) (x : Nat) (hx : x % 4294967296 = 8) (hf : (S.st 8 == 2 && takeB S 1 8) = false) : Calls Tryz.prog 40 #[.pointer (some ⟨b, 0, none⟩), .int .u64 2101252, .int .i64 4, .int .u64 x] w (RetZ (.bool true) b e p t ce cp ct S w) := by
  obtain ⟨X1, X2, X3⟩ := ctxs_1
  have y1 : (x : Int) % 4294967296 = 8 := by omega
  have y2 : (x : Int).tmod 4294967296 = 8 := by rw [Int.tmod_eq_emod_of_nonneg (by omega)]; exact y1
  have hu := h.out.bu.lt; have hv := h.out.bv.lt; have hs := h.out.bs.lt
  obtain ⟨m, r, b1, s1, hT2⟩ := fin_tst h.out 1 8 256 (by decide) (by decide) rfl hf
  clear hx
  have K0 := cell_regrown h.out.raw.c2
  have K1 := cell_regrown h.out.raw.c3
  have K2 := cell_regrown (h.out.raw.en 1 (by decide)).1
  have hce := h.out.raw.hce
  clear hf hu hv hs
  go_enter Tryz.func40, Tryz.ntmps40
  go_wp2_with fail
  refine (X1.out _).mono ?_; rintro e0 w1 ⟨rfl, q⟩; subst q
  go_wp2_with fail
  refine (X2.out _).mono ?_; rintro e0 w1 ⟨rfl, q⟩; subst q
  go_wp2_with fail
  refine (X3.out _).mono ?_; rintro e0 w1 ⟨rfl, q⟩; subst q
  go_wp2_with fail
  refine wp_region_quiet_below (by kernel_rfl) (by kernel_rfl) ?_
  repeat (go_big_quiet_step (fail))
  refine wpQuiet_nil ?_
  intro _ hw'
  obtain ⟨⟨dq, osq⟩, hw''⟩ := hw'
  subst hw''
  have hb := below_regrown w1 dq osq
  have H0 := Lib.hid (h.out.raw.below hb)
  have HB0 := Lib.hid (cw_below (T := own4 b e p t) hb)
  have HF : Hid (RetZ (.bool true) b e p t ce cp ct S w1 (.returned (.bool true)) (grow (redrawn w1 dq) osq)) := ⟨rfl, ⟨_, _, _, h.out.below hb⟩, HB0.out⟩
  generalize grow (redrawn w1 dq) osq = w2 at *
  clear K0 K1 K2 H0 HB0 hb h
  go_wp2_with fail
  go_ret
  exact HF.out
set_option maxRecDepth 100000 in
theorem finr_181 (b e p t ce cp ct u v s : Nat) (S : St) (w : World) (h : Hid (IsRP w b e p t ce cp ct u v s S)) (x : Nat) (hx : x % 4294967296 = 8) (hf : (S.st 8 == 2 && takeB S 1 8) = true) : Calls Tryz.prog 40 #[.pointer (some ⟨b, 0, none⟩), .int .u64 2101252, .int .i64 4, .int .u64 x] w (RetZ (.bool true) b e p t ce cp ct (comeF (S.setSt 8 0) 8) w) := by
  obtain ⟨X1, X2, X3⟩ := ctxs_1
  have y1 : (x : Int) % 4294967296 = 8 := by omega
  have y2 : (x : Int).tmod 4294967296 = 8 := by rw [Int.tmod_eq_emod_of_nonneg (by omega)]; exact y1
  have hu := h.out.bu.lt; have hv := h.out.bv.lt; have hs := h.out.bs.lt
  obtain ⟨m, r, b1, s1, hT2⟩ := fin_tst h.out 1 8 256 (by decide) (by decide) rfl hf
  clear hx
  have K0 := cell_regrown h.out.raw.c2
  have K1 := cell_regrown h.out.raw.c3
  have K2 := cell_regrown (h.out.raw.en 1 (by decide)).1
  have hce := h.out.raw.hce
  have HST : Hid (S.st 8 = 2) := by
    have h1 : (S.st 8 == 2) = true := by
      cases q : S.st 8 == 2 with
      | true => rfl
      | false => rw [q] at hf; exact absurd hf (by simp)
    exact Lib.hid (by simpa using h1)
  have a2 : bits .andNot .u64 (s : Int) 256 = ((s &&& 18446744073709551615 - 256 : Nat) : Int) := andNot64 s 256 (by omega) (by decide)
  have B2 := Lib.hid (h.out.bs.off (n := 8) (by decide))
  rw [show (18446744073709551615 - 2 ^ 8 : Nat) = 18446744073709551615 - 256 from rfl] at B2
  obtain ⟨y, hy⟩ : ∃ y, y = s &&& 18446744073709551615 - 256 := ⟨_, rfl⟩
  rw [← hy] at a2 B2
  have HL : Hid (u < 512 ∧ v < 512 ∧ y < 512) := ⟨hu, hv, B2.out.lt⟩
  clear hy hf hu hv hs
  go_enter Tryz.func40, Tryz.ntmps40
  go_wp2_with fail
  refine (X1.out _).mono ?_; rintro e0 w1 ⟨rfl, q⟩; subst q
  go_wp2_with fail
  refine (X2.out _).mono ?_; rintro e0 w1 ⟨rfl, q⟩; subst q
  go_wp2_with fail
  refine (X3.out _).mono ?_; rintro e0 w1 ⟨rfl, q⟩; subst q
  go_wp2_with fail
  refine wp_region_quiet_below (by kernel_rfl) (by kernel_rfl) ?_
  repeat (go_big_quiet_step (fail))
  refine wpQuiet_nil ?_
  intro _ hw'
  obtain ⟨⟨dq, osq⟩, hw''⟩ := hw'
  subst hw''
  have hb := below_regrown w1 dq osq
  have H0 := Lib.hid (h.out.raw.below hb)
  have HB0 := Lib.hid (cw_below (T := own4 b e p t) hb)
  generalize grow (redrawn w1 dq) osq = w2 at *
  clear K0 K1 K2 hb
  have k2 := H0.out.c2
  have f2 := H0.out.fb 2
  have HC1 := Lib.hid (cw_trans HB0.out (cw_set b e p t w2 b 2 (.int .u64 (y : Nat)) (.inl rfl) (by rw [k2]; rfl)))
  have R1 := H0.out.num 2 y (by decide)
  rw [if_neg (by decide), if_neg (by decide), if_pos rfl] at R1
  have HR1 := Lib.hid R1
  clear R1
  go_wp2_with fail
  clear k2 f2
  generalize w2.setCell ⟨b, 2, none⟩ (.int .u64 (y : Nat)) = w4 at *
  have HQ := Lib.hid (come_raw b e p t ce cp ct u v y S w4 HR1 HL.out.1 HL.out.2.1 HL.out.2.2)
  refine HQ.out.mono ?_; rintro e0 w5 ⟨rfl, w6, hb, rfl⟩
  have HR6 := Lib.hid (HR1.out.below hb)
  have k1 := HR6.out.c1
  obtain ⟨q1, q2, q3, q4⟩ := fin_bits (S := S) (n := 8) (s := s) h.out.bu h.out.bv B2.out h.out.inv h.out.ok (by decide) HST.out
  have R6 := HR6.out.num 1 (v ||| (u &&& (18446744073709551615 - y))) (by decide)
  rw [if_neg (by decide), if_pos rfl, if_neg (by decide)] at R6
  have HF : Hid (RetZ (.bool true) b e p t ce cp ct (comeF (S.setSt 8 0) 8) w1 (.returned (.bool true)) (w6.setCell ⟨b, 1, none⟩ (.int .u64 ((v ||| (u &&& (18446744073709551615 - y)) : Nat) : Int)))) :=
    ⟨rfl, ⟨_, _, _, raw_congr R6 (come_same2 S _).1 (come_same2 S _).2.1 (come_same2 S _).2.2, q3, q1, q2, (h.out.ok.setSt 8 0 (by decide)).come 8, q4⟩, cw_trans (cw_trans HC1.out (cw_below hb)) (cw_set b e p t w6 b 1 _ (.inl rfl) (by rw [k1]; rfl))⟩
  clear R6 k1 q1 q2 q3 q4 hb HR1 HC1 HB0 H0
  go_wp2_with fail
  go_ret
  exact HF.out
set_option maxRecDepth 100000 in
theorem finr_0z (b e p t ce cp ct u v s : Nat) (S : St) (w : World) (h : Hid (IsRP w b e p t ce cp ct u v s S)) (x : Nat) (hx : x % 4294967296 = 0) : Calls Tryz.prog 40 #[.pointer (some ⟨b, 0, none⟩), .int .u64 2097156, .int .i64 4, .int .u64 x] w (RetZ (.bool true) b e p t ce cp ct S w) := by
  obtain ⟨X1, X2, X3⟩ := ctxs_0
  have y1 : (x : Int) % 4294967296 = 0 := by omega
  have y2 : (x : Int).tmod 4294967296 = 0 := by rw [Int.tmod_eq_emod_of_nonneg (by omega)]; exact y1
  have hce := h.out.raw.hce
  clear hx
  go_enter Tryz.func40, Tryz.ntmps40
  go_wp2_with fail
  refine (X1.out _).mono ?_; rintro e0 w1 ⟨rfl, q⟩; subst q
  go_wp2_with fail
  refine (X2.out _).mono ?_; rintro e0 w1 ⟨rfl, q⟩; subst q
  go_wp2_with fail
  refine (X3.out _).mono ?_; rintro e0 w1 ⟨rfl, q⟩; subst q
  go_wp2_with fail
  refine wp_region_quiet_below (by kernel_rfl) (by kernel_rfl) ?_
  repeat (go_big_quiet_step (fail))
  refine wpQuiet_nil ?_
  intro _ hw'
  obtain ⟨⟨dq, osq⟩, hw''⟩ := hw'
  subst hw''
  have hb := below_regrown w1 dq osq
  have HF : Hid (RetZ (.bool true) b e p t ce cp ct S w1 (.returned (.bool true)) (grow (redrawn w1 dq) osq)) := ⟨rfl, ⟨_, _, _, h.out.below hb⟩, cw_below (T := own4 b e p t) hb⟩
  generalize grow (redrawn w1 dq) osq = w2 at *
  clear hb h
  go_wp2_with fail
  go_ret
  exact HF.out
set_option maxRecDepth 100000 in
theorem finr_0n (b e p t ce cp ct u v s : Nat) (S : St) (w : World) (h : Hid (IsRP w b e p t ce cp ct u v s S)) (x : Nat) (hx : 9 ≤ x % 4294967296) : Calls Tryz.prog 40 #[.pointer (some ⟨b, 0, none⟩), .int .u64 2097156, .int .i64 4, .int .u64 x] w (RetZ (.bool true) b e p t ce cp ct S w) := by
  obtain ⟨X1, X2, X3⟩ := ctxs_0
  obtain ⟨y, hy⟩ : ∃ y, y = x % 4294967296 := ⟨_, rfl⟩
  rw [← hy] at hx
  have y1 : (x : Int) % 4294967296 = (y : Int) := by rw [hy]; omega
  have y2 : (x : Int).tmod 4294967296 = (y : Int) := by rw [Int.tmod_eq_emod_of_nonneg (by omega)]; exact y1
  have y3 : (1 : Int) ≤ (y : Int) := by omega
  have y4 : ¬ (y : Int) ≤ 8 := by omega
  have y5 : ¬ y ≤ 8 := by omega
  have y6 : 1 ≤ y := by omega
  have y7 : 0 < y := by omega
  have y8 : decide ((1 : Int) ≤ (y : Int)) = true := decide_eq_true y3
  have y9 : decide ((y : Int) ≤ 8) = false := decide_eq_false y4
  have y10 : ¬ y = 0 := by omega
  have y11 : (0 : Int) < (y : Int) := by omega
  have hce := h.out.raw.hce
  clear hx hy
  go_enter Tryz.func40, Tryz.ntmps40
  go_wp2_with fail
  refine (X1.out _).mono ?_; rintro e0 w1 ⟨rfl, q⟩; subst q
  go_wp2_with fail
  refine (X2.out _).mono ?_; rintro e0 w1 ⟨rfl, q⟩; subst q
  go_wp2_with fail
  refine (X3.out _).mono ?_; rintro e0 w1 ⟨rfl, q⟩; subst q
  go_wp2_with fail
  refine wp_region_quiet_below (by kernel_rfl) (by kernel_rfl) ?_
  repeat (go_big_quiet_step (fail))
  refine wpQuiet_nil ?_
  intro _ hw'
  obtain ⟨⟨dq, osq⟩, hw''⟩ := hw'
  subst hw''
  have hb := below_regrown w1 dq osq
  have HF : Hid (RetZ (.bool true) b e p t ce cp ct S w1 (.returned (.bool true)) (grow (redrawn w1 dq) osq)) := ⟨rfl, ⟨_, _, _, h.out.below hb⟩, cw_below (T := own4 b e p t) hb⟩
  generalize grow (redrawn w1 dq) osq = w2 at *
  clear hb h
  go_wp2_with fail
  go_ret
  exact HF.out
set_option maxRecDepth 100000 in
theorem finr_1z (b e p t ce cp ct u v s : Nat) (S : St) (w : World) (h : Hid (IsRP w b e p t ce cp ct u v s S)) (x : Nat) (hx : x % 4294967296 = 0) : Calls Tryz.prog 40 #[.pointer (some ⟨b, 0, none⟩), .int .u64 2101252, .int .i64 4, .int .u64 x] w (RetZ (.bool true) b e p t ce cp ct S w) := by
  obtain ⟨X1, X2, X3⟩ := ctxs_1
  have y1 : (x : Int) % 4294967296 = 0 := by omega
  have y2 : (x : Int).tmod 4294967296 = 0 := by rw [Int.tmod_eq_emod_of_nonneg (by omega)]; exact y1
  have hce := h.out.raw.hce
  clear hx
  go_enter Tryz.func40, Tryz.ntmps40
  go_wp2_with fail
  refine (X1.out _).mono ?_; rintro e0 w1 ⟨rfl, q⟩; subst q
  go_wp2_with fail
  refine (X2.out _).mono ?_; rintro e0 w1 ⟨rfl, q⟩; subst q
  go_wp2_with fail
  refine (X3.out _).mono ?_; rintro e0 w1 ⟨rfl, q⟩; subst q
  go_wp2_with fail
  refine wp_region_quiet_below (by kernel_rfl) (by kernel_rfl) ?_
  repeat (go_big_quiet_step (fail))
  refine wpQuiet_nil ?_
  intro _ hw'
  obtain ⟨⟨dq, osq⟩, hw''⟩ := hw'
  subst hw''
  have hb := below_regrown w1 dq osq
  have HF : Hid (RetZ (.bool true) b e p t ce cp ct S w1 (.returned (.bool true)) (grow (redrawn w1 dq) osq)) := ⟨rfl, ⟨_, _, _, h.out.below hb⟩, cw_below (T := own4 b e p t) hb⟩
  generalize grow (redrawn w1 dq) osq = w2 at *
  clear hb h
  go_wp2_with fail
  go_ret
  exact HF.out
set_option maxRecDepth 100000 in
theorem finr_1n (b e p t ce cp ct u v s : Nat) (S : St) (w : World) (h : Hid (IsRP w b e p t ce cp ct u v s S)) (x : Nat) (hx : 9 ≤ x % 4294967296) : Calls Tryz.prog 40 #[.pointer (some ⟨b, 0, none⟩), .int .u64 2101252, .int .i64 4, .int .u64 x] w (RetZ (.bool true) b e p t ce cp ct S w) := by
  obtain ⟨X1, X2, X3⟩ := ctxs_1
  obtain ⟨y, hy⟩ : ∃ y, y = x % 4294967296 := ⟨_, rfl⟩
  rw [← hy] at hx
  have y1 : (x : Int) % 4294967296 = (y : Int) := by rw [hy]; omega
  have y2 : (x : Int).tmod 4294967296 = (y : Int) := by rw [Int.tmod_eq_emod_of_nonneg (by omega)]; exact y1
  have y3 : (1 : Int) ≤ (y : Int) := by omega
  have y4 : ¬ (y : Int) ≤ 8 := by omega
  have y5 : ¬ y ≤ 8 := by omega
  have y6 : 1 ≤ y := by omega
  have y7 : 0 < y := by omega
  have y8 : decide ((1 : Int) ≤ (y : Int)) = true := decide_eq_true y3
  have y9 : decide ((y : Int) ≤ 8) = false := decide_eq_false y4
  have y10 : ¬ y = 0 := by omega
  have y11 : (0 : Int) < (y : Int) := by omega
  have hce := h.out.raw.hce
  clear hx hy
  go_enter Tryz.func40, Tryz.ntmps40
  go_wp2_with fail
  refine (X1.out _).mono ?_; rintro e0 w1 ⟨rfl, q⟩; subst q
  go_wp2_with fail
  refine (X2.out _).mono ?_; rintro e0 w1 ⟨rfl, q⟩; subst q
  go_wp2_with fail
  refine (X3.out _).mono ?_; rintro e0 w1 ⟨rfl, q⟩; subst q
  go_wp2_with fail
  refine wp_region_quiet_below (by kernel_rfl) (by kernel_rfl) ?_
  repeat (go_big_quiet_step (fail))
  refine wpQuiet_nil ?_
  intro _ hw'
  obtain ⟨⟨dq, osq⟩, hw''⟩ := hw'
  subst hw''
  have hb := below_regrown w1 dq osq
  have HF : Hid (RetZ (.bool true) b e p t ce cp ct S w1 (.returned (.bool true)) (grow (redrawn w1 dq) osq)) := ⟨rfl, ⟨_, _, _, h.out.below hb⟩, cw_below (T := own4 b e p t) hb⟩
  generalize grow (redrawn w1 dq) osq = w2 at *
  clear hb h
  go_wp2_with fail
  go_ret
  exact HF.out
theorem finr_c (b e p t ce cp ct u v s : Nat) (S : St) (w : World) (h : Hid (IsRP w b e p t ce cp ct u v s S)) (c x : Nat) (hc : c < 2) : Calls Tryz.prog 40 #[.pointer (some ⟨b, 0, none⟩), .int .u64 (2097156 + 4096 * c : Nat), .int .i64 4, .int .u64 x] w (RetZ (.bool true) b e p t ce cp ct (finF S c (x % 4294967296)) w) := by
  have hc2 : c = 0 ∨ c = 1 := by omega
  have hb : x % 4294967296 = 0 ∨ x % 4294967296 = 1 ∨ x % 4294967296 = 2 ∨ x % 4294967296 = 3 ∨ x % 4294967296 = 4 ∨ x % 4294967296 = 5 ∨ x % 4294967296 = 6 ∨ x % 4294967296 = 7 ∨ x % 4294967296 = 8 ∨ 9 ≤ x % 4294967296 := by omega
  have z0 : finF S c 0 = S := by unfold finF; rw [h.out.inv.2.2.1]; simp
  have z9 : ∀ n, 9 ≤ n → finF S c n = S := fun n hn => by unfold finF; rw [decide_eq_false (by omega)]; rfl
  have zf : ∀ n, n < 9 → finF S c n = bif S.st n == 2 && takeB S c n then comeF (S.setSt n 0) n else S := fun n hn => by unfold finF; rw [decide_eq_true hn]; rfl
  rcases hc2 with rfl | rfl <;> rcases hb with q | q | q | q | q | q | q | q | q | q
  · rw [q, z0]; exact finr_0z b e p t ce cp ct u v s S w h x q
  · rw [q, zf 1 (by decide)]
    cases hf : (S.st 1 == 2 && takeB S 0 1) with
    | false => exact finr_010 b e p t ce cp ct u v s S w h x q hf
    | true => exact finr_011 b e p t ce cp ct u v s S w h x q hf
  · rw [q, zf 2 (by decide)]
    cases hf : (S.st 2 == 2 && takeB S 0 2) with
    | false => exact finr_020 b e p t ce cp ct u v s S w h x q hf
    | true => exact finr_021 b e p t ce cp ct u v s S w h x q hf
  · rw [q, zf 3 (by decide)]
    cases hf : (S.st 3 == 2 && takeB S 0 3) with
    | false => exact finr_030 b e p t ce cp ct u v s S w h x q hf
    | true => exact finr_031 b e p t ce cp ct u v s S w h x q hf
  · rw [q, zf 4 (by decide)]
    cases hf : (S.st 4 == 2 && takeB S 0 4) with
    | false => exact finr_040 b e p t ce cp ct u v s S w h x q hf
    | true => exact finr_041 b e p t ce cp ct u v s S w h x q hf
  · rw [q, zf 5 (by decide)]
    cases hf : (S.st 5 == 2 && takeB S 0 5) with
    | false => exact finr_050 b e p t ce cp ct u v s S w h x q hf
    | true => exact finr_051 b e p t ce cp ct u v s S w h x q hf
  · rw [q, zf 6 (by decide)]
    cases hf : (S.st 6 == 2 && takeB S 0 6) with
    | false => exact finr_060 b e p t ce cp ct u v s S w h x q hf
    | true => exact finr_061 b e p t ce cp ct u v s S w h x q hf
  · rw [q, zf 7 (by decide)]
    cases hf : (S.st 7 == 2 && takeB S 0 7) with
    | false => exact finr_070 b e p t ce cp ct u v s S w h x q hf
    | true => exact finr_071 b e p t ce cp ct u v s S w h x q hf
  · rw [q, zf 8 (by decide)]
    cases hf : (S.st 8 == 2 && takeB S 0 8) with
    | false => exact finr_080 b e p t ce cp ct u v s S w h x q hf
    | true => exact finr_081 b e p t ce cp ct u v s S w h x q hf
  · rw [z9 _ q]; exact finr_0n b e p t ce cp ct u v s S w h x q
  · rw [q, z0]; exact finr_1z b e p t ce cp ct u v s S w h x q
  · rw [q, zf 1 (by decide)]
    cases hf : (S.st 1 == 2 && takeB S 1 1) with
    | false => exact finr_110 b e p t ce cp ct u v s S w h x q hf
    | true => exact finr_111 b e p t ce cp ct u v s S w h x q hf
  · rw [q, zf 2 (by decide)]
    cases hf : (S.st 2 == 2 && takeB S 1 2) with
    | false => exact finr_120 b e p t ce cp ct u v s S w h x q hf
    | true => exact finr_121 b e p t ce cp ct u v s S w h x q hf
  · rw [q, zf 3 (by decide)]
    cases hf : (S.st 3 == 2 && takeB S 1 3) with
    | false => exact finr_130 b e p t ce cp ct u v s S w h x q hf
    | true => exact finr_131 b e p t ce cp ct u v s S w h x q hf
  · rw [q, zf 4 (by decide)]
    cases hf : (S.st 4 == 2 && takeB S 1 4) with
    | false => exact finr_140 b e p t ce cp ct u v s S w h x q hf
    | true => exact finr_141 b e p t ce cp ct u v s S w h x q hf
  · rw [q, zf 5 (by decide)]
    cases hf : (S.st 5 == 2 && takeB S 1 5) with
    | false => exact finr_150 b e p t ce cp ct u v s S w h x q hf
    | true => exact finr_151 b e p t ce cp ct u v s S w h x q hf
  · rw [q, zf 6 (by decide)]
    cases hf : (S.st 6 == 2 && takeB S 1 6) with
    | false => exact finr_160 b e p t ce cp ct u v s S w h x q hf
    | true => exact finr_161 b e p t ce cp ct u v s S w h x q hf
  · rw [q, zf 7 (by decide)]
    cases hf : (S.st 7 == 2 && takeB S 1 7) with
    | false => exact finr_170 b e p t ce cp ct u v s S w h x q hf
    | true => exact finr_171 b e p t ce cp ct u v s S w h x q hf
  · rw [q, zf 8 (by decide)]
    cases hf : (S.st 8 == 2 && takeB S 1 8) with
    | false => exact finr_180 b e p t ce cp ct u v s S w h x q hf
    | true => exact finr_181 b e p t ce cp ct u v s S w h x q hf
  · rw [z9 _ q]; exact finr_1n b e p t ce cp ct u v s S w h x q
theorem write_r (b e p t ce cp ct u v s : Nat) (S : St) (w : World) (h : Hid (IsRP w b e p t ce cp ct u v s S)) (a : Nat) (z : Int) (x : Nat) (hx : Hid (x < 18446744073709551616)) : Calls Tryz.prog 40 #[.pointer (some ⟨b, 0, none⟩), .int .u64 a, .int .i64 z, .int .u64 x] w (RetZ (.bool (decide (pk a z ≠ 0))) b e p t ce cp ct (wrP (pk a z) S x) w) := by
  rcases pk_cases a z with ⟨n, hn, rfl, ha, q⟩ | ⟨rfl, rfl, q⟩ | ⟨c, hc, rfl, ha, q⟩ | ⟨c, hc, rfl, ha, q⟩ | ⟨c, hc, rfl, ha, q⟩ | ⟨hno, q⟩ <;> rw [q]
  · subst ha
    have : n = 0 ∨ n = 1 ∨ n = 2 ∨ n = 3 ∨ n = 4 ∨ n = 5 ∨ n = 6 ∨ n = 7 ∨ n = 8 := by omega
    rcases this with rfl | rfl | rfl | rfl | rfl | rfl | rfl | rfl | rfl
    · exact writer_z0 b e p t ce cp ct u v s S w h x hx
    · exact writer_pr1 b e p t ce cp ct u v s S w h x hx
    · exact writer_pr2 b e p t ce cp ct u v s S w h x hx
    · exact writer_pr3 b e p t ce cp ct u v s S w h x hx
    · exact writer_pr4 b e p t ce cp ct u v s S w h x hx
    · exact writer_pr5 b e p t ce cp ct u v s S w h x hx
    · exact writer_pr6 b e p t ce cp ct u v s S w h x hx
    · exact writer_pr7 b e p t ce cp ct u v s S w h x hx
    · exact writer_pr8 b e p t ce cp ct u v s S w h x hx
  · exact writer_z4096 b e p t ce cp ct u v s S w h x hx
  · subst ha
    have : c = 0 ∨ c = 1 := by omega
    rcases this with rfl | rfl
    · exact writer_en0 b e p t ce cp ct u v s S w h x hx
    · exact writer_en1 b e p t ce cp ct u v s S w h x hx
  · subst ha
    have : c = 0 ∨ c = 1 := by omega
    rcases this with rfl | rfl
    · exact writer_th0 b e p t ce cp ct u v s S w h x hx
    · exact writer_th1 b e p t ce cp ct u v s S w h x hx
  · subst ha
    rw [decide_eq_true (by omega : 15 + c ≠ 0), show wrP (15 + c) S x = finF S c (x % 4294967296) by unfold wrP; rw [if_neg (by omega), if_neg (by omega), if_neg (by omega), if_neg (by omega), if_neg (by omega), if_pos (by omega), show 15 + c - 15 = c by omega]]
    exact finr_c b e p t ce cp ct u v s S w h c x hc
  · by_cases hz : z = 4
    · subst hz
      by_cases hl : a ≤ 32
      · exact writer_no0 b e p t ce cp ct u v s S w h a x hx (hno rfl) hl
      · exact writer_no1 b e p t ce cp ct u v s S w h a x hx (hno rfl) hl
    · exact writer_size b e p t ce cp ct u v s S w h a x hx z hz
end Go.Proofs.YtoicpikkcefheaaGreat.P
