/- The document's plic: which interrupts. -/
import Derived.Test.YtoicpikkcefheaaGreatRD
namespace Go.Proofs.YtoicpikkcefheaaGreat.P
open Go.ChangeShapes Go.WideShapes Go.ChangeAt Go.RowKit Go.Sort
open M (Fp Dj Cw Up Th)
set_option linter.unusedVariables false
set_option linter.unusedSimpArgs false
set_option maxRecDepth 20000
set_option maxRecDepth 100000 in
theorem pendr_00 (b e p t ce cp ct u v s : Nat) (S : St) (w : World) (h : Hid (IsRP w b e p t ce cp ct u v s S)) (n m : Nat) (n9 : n < 9) (m9 : m < 9) (HN : Hid (best S 0 = n)) (HM : Hid (best S 1 = m)) (hA : decide (S.th 0 < S.pr n) = false) (hB : decide (S.th 1 < S.pr m) = false) : Calls Tryz.prog 93 #[.pointer (some ⟨b, 0, none⟩)] w (RetU 0 w) := by
  have n9' : (n : Int) < 9 := by omega
  have m9' : (m : Int) < 9 := by omega
  have nt : ((n : Nat) : Int).toNat = n := by omega
  have mt : ((m : Nat) : Int).toNat = m := by omega
  have hcp := h.out.raw.hcp
  have hct := h.out.raw.hct
  have hA' : decide (((S.th 0 : Nat) : Int) < ((S.pr n : Nat) : Int)) = false := by rw [← hA]; exact decide_eq_decide.2 (by omega)
  have hB' : decide (((S.th 1 : Nat) : Int) < ((S.pr m : Nat) : Int)) = false := by rw [← hB]; exact decide_eq_decide.2 (by omega)
  obtain ⟨x0, h0⟩ : ∃ x, x = S.pr n := ⟨_, rfl⟩
  obtain ⟨x1, h1⟩ : ∃ x, x = S.pr m := ⟨_, rfl⟩
  obtain ⟨t0, h2⟩ : ∃ x, x = S.th 0 := ⟨_, rfl⟩
  obtain ⟨t1, h3⟩ : ∃ x, x = S.th 1 := ⟨_, rfl⟩
  rw [← h0, ← h2] at hA'
  rw [← h1, ← h3] at hB'
  have A2 : ¬ (t0 : Int) < (x0 : Int) := by simpa using hA'
  have A3 : ¬ t0 < x0 := by omega
  have B2 : ¬ (t1 : Int) < (x1 : Int) := by simpa using hB'
  have B3 : ¬ t1 < x1 := by omega
  have E := Lib.hid (And.intro h0 (And.intro h1 (And.intro h2 h3)))
  have HQ0 := Lib.hid (best_r b e p t ce cp ct u v s 0 S w h (by decide))
  rw [HN.out] at HQ0
  clear h0 h1 h2 h3 hA hB
  go_enter Tryz.func93, Tryz.ntmps93
  go_wp2_with fail
  refine HQ0.out.mono ?_; rintro e0 w1 ⟨rfl, hb1⟩
  have H1 : Hid (IsRP w1 b e p t ce cp ct u v s S) := h.out.below hb1
  have HB1 := Lib.hid hb1
  have HQ1 := Lib.hid (best_r b e p t ce cp ct u v s 1 S w1 H1 (by decide))
  rw [HM.out] at HQ1
  clear hb1 HQ0 h
  go_wp2_with fail
  refine HQ1.out.mono ?_; rintro e0 w2 ⟨rfl, hb2⟩
  have H2 : Hid (IsRP w2 b e p t ce cp ct u v s S) := H1.out.below hb2
  have HB2 := Lib.hid (HB1.out.trans (hb2.mono HB1.out.size))
  clear hb2 HQ1 H1 HB1
  have K0 := cell_regrown H2.out.raw.c4
  have K1 := cell_regrown H2.out.raw.c5
  have K2 := cell_regrown (H2.out.raw.pr n n9).1
  have K3 := cell_regrown (H2.out.raw.th 0 (by decide)).1
  rw [← E.out.1] at K2
  rw [← E.out.2.2.1] at K3
  go_wp2_with fail
  refine wp_region_quiet_below (by kernel_rfl) (by kernel_rfl) ?_
  repeat (go_big_quiet_step (fail))
  refine wpQuiet_nil ?_
  intro _ hw'
  obtain ⟨⟨dq, osq⟩, hw''⟩ := hw'
  subst hw''
  have hb := below_regrown w2 dq osq
  generalize grow (redrawn w2 dq) osq = w3 at hb ⊢
  have H3 : Hid (IsRP w3 b e p t ce cp ct u v s S) := H2.out.below hb
  have HB3 := Lib.hid (HB2.out.trans (hb.mono HB2.out.size))
  clear K0 K1 K2 K3 hb H2 HB2
  have K0 := cell_regrown H3.out.raw.c4
  have K1 := cell_regrown H3.out.raw.c5
  have K2 := cell_regrown (H3.out.raw.pr m m9).1
  have K3 := cell_regrown (H3.out.raw.th 1 (by decide)).1
  rw [← E.out.2.1] at K2
  rw [← E.out.2.2.2] at K3
  go_wp2_with fail
  refine wp_region_quiet_below (by kernel_rfl) (by kernel_rfl) ?_
  repeat (go_big_quiet_step (fail))
  refine wpQuiet_nil ?_
  intro _ hw'
  obtain ⟨⟨dq, osq⟩, hw''⟩ := hw'
  subst hw''
  have hb := below_regrown w3 dq osq
  generalize grow (redrawn w3 dq) osq = w4 at hb ⊢
  have HB4 := Lib.hid (HB3.out.trans (hb.mono HB3.out.size))
  clear K0 K1 K2 K3 hb H3 HB3
  go_wp2_with fail
  go_ret
  exact retU_mk rfl HB4.out
set_option maxRecDepth 100000 in
theorem pendr_01 (b e p t ce cp ct u v s : Nat) (S : St) (w : World) (h : Hid (IsRP w b e p t ce cp ct u v s S)) (n m : Nat) (n9 : n < 9) (m9 : m < 9) (HN : Hid (best S 0 = n)) (HM : Hid (best S 1 = m)) (hA : decide (S.th 0 < S.pr n) = false) (hB : decide (S.th 1 < S.pr m) = true) : Calls Tryz.prog 93 #[.pointer (some ⟨b, 0, none⟩)] w (RetU 512 w) := by
  have n9' : (n : Int) < 9 := by omega
  have m9' : (m : Int) < 9 := by omega
  have nt : ((n : Nat) : Int).toNat = n := by omega
  have mt : ((m : Nat) : Int).toNat = m := by omega
  have hcp := h.out.raw.hcp
  have hct := h.out.raw.hct
  have hA' : decide (((S.th 0 : Nat) : Int) < ((S.pr n : Nat) : Int)) = false := by rw [← hA]; exact decide_eq_decide.2 (by omega)
  have hB' : decide (((S.th 1 : Nat) : Int) < ((S.pr m : Nat) : Int)) = true := by rw [← hB]; exact decide_eq_decide.2 (by omega)
  obtain ⟨x0, h0⟩ : ∃ x, x = S.pr n := ⟨_, rfl⟩
  obtain ⟨x1, h1⟩ : ∃ x, x = S.pr m := ⟨_, rfl⟩
  obtain ⟨t0, h2⟩ : ∃ x, x = S.th 0 := ⟨_, rfl⟩
  obtain ⟨t1, h3⟩ : ∃ x, x = S.th 1 := ⟨_, rfl⟩
  rw [← h0, ← h2] at hA'
  rw [← h1, ← h3] at hB'
  have A2 : ¬ (t0 : Int) < (x0 : Int) := by simpa using hA'
  have A3 : ¬ t0 < x0 := by omega
  have B2 : (t1 : Int) < (x1 : Int) := by simpa using hB'
  have B3 : t1 < x1 := by omega
  have E := Lib.hid (And.intro h0 (And.intro h1 (And.intro h2 h3)))
  have HQ0 := Lib.hid (best_r b e p t ce cp ct u v s 0 S w h (by decide))
  rw [HN.out] at HQ0
  clear h0 h1 h2 h3 hA hB
  go_enter Tryz.func93, Tryz.ntmps93
  go_wp2_with fail
  refine HQ0.out.mono ?_; rintro e0 w1 ⟨rfl, hb1⟩
  have H1 : Hid (IsRP w1 b e p t ce cp ct u v s S) := h.out.below hb1
  have HB1 := Lib.hid hb1
  have HQ1 := Lib.hid (best_r b e p t ce cp ct u v s 1 S w1 H1 (by decide))
  rw [HM.out] at HQ1
  clear hb1 HQ0 h
  go_wp2_with fail
  refine HQ1.out.mono ?_; rintro e0 w2 ⟨rfl, hb2⟩
  have H2 : Hid (IsRP w2 b e p t ce cp ct u v s S) := H1.out.below hb2
  have HB2 := Lib.hid (HB1.out.trans (hb2.mono HB1.out.size))
  clear hb2 HQ1 H1 HB1
  have K0 := cell_regrown H2.out.raw.c4
  have K1 := cell_regrown H2.out.raw.c5
  have K2 := cell_regrown (H2.out.raw.pr n n9).1
  have K3 := cell_regrown (H2.out.raw.th 0 (by decide)).1
  rw [← E.out.1] at K2
  rw [← E.out.2.2.1] at K3
  go_wp2_with fail
  refine wp_region_quiet_below (by kernel_rfl) (by kernel_rfl) ?_
  repeat (go_big_quiet_step (fail))
  refine wpQuiet_nil ?_
  intro _ hw'
  obtain ⟨⟨dq, osq⟩, hw''⟩ := hw'
  subst hw''
  have hb := below_regrown w2 dq osq
  generalize grow (redrawn w2 dq) osq = w3 at hb ⊢
  have H3 : Hid (IsRP w3 b e p t ce cp ct u v s S) := H2.out.below hb
  have HB3 := Lib.hid (HB2.out.trans (hb.mono HB2.out.size))
  clear K0 K1 K2 K3 hb H2 HB2
  have K0 := cell_regrown H3.out.raw.c4
  have K1 := cell_regrown H3.out.raw.c5
  have K2 := cell_regrown (H3.out.raw.pr m m9).1
  have K3 := cell_regrown (H3.out.raw.th 1 (by decide)).1
  rw [← E.out.2.1] at K2
  rw [← E.out.2.2.2] at K3
  go_wp2_with fail
  refine wp_region_quiet_below (by kernel_rfl) (by kernel_rfl) ?_
  repeat (go_big_quiet_step (fail))
  refine wpQuiet_nil ?_
  intro _ hw'
  obtain ⟨⟨dq, osq⟩, hw''⟩ := hw'
  subst hw''
  have hb := below_regrown w3 dq osq
  generalize grow (redrawn w3 dq) osq = w4 at hb ⊢
  have HB4 := Lib.hid (HB3.out.trans (hb.mono HB3.out.size))
  clear K0 K1 K2 K3 hb H3 HB3
  go_wp2_with fail
  go_ret
  exact retU_mk rfl HB4.out
set_option maxRecDepth 100000 in
theorem pendr_10 (b e p t ce cp ct u v s : Nat) (S : St) (w : World) (h : Hid (IsRP w b e p t ce cp ct u v s S)) (n m : Nat) (n9 : n < 9) (m9 : m < 9) (HN : Hid (best S 0 = n)) (HM : Hid (best S 1 = m)) (hA : decide (S.th 0 < S.pr n) = true) (hB : decide (S.th 1 < S.pr m) = false) : Calls Tryz.prog 93 #[.pointer (some ⟨b, 0, none⟩)] w (RetU 2048 w) := by
  have n9' : (n : Int) < 9 := by omega
  have m9' : (m : Int) < 9 := by omega
  have nt : ((n : Nat) : Int).toNat = n := by omega
  have mt : ((m : Nat) : Int).toNat = m := by omega
  have hcp := h.out.raw.hcp
  have hct := h.out.raw.hct
  have hA' : decide (((S.th 0 : Nat) : Int) < ((S.pr n : Nat) : Int)) = true := by rw [← hA]; exact decide_eq_decide.2 (by omega)
  have hB' : decide (((S.th 1 : Nat) : Int) < ((S.pr m : Nat) : Int)) = false := by rw [← hB]; exact decide_eq_decide.2 (by omega)
  obtain ⟨x0, h0⟩ : ∃ x, x = S.pr n := ⟨_, rfl⟩
  obtain ⟨x1, h1⟩ : ∃ x, x = S.pr m := ⟨_, rfl⟩
  obtain ⟨t0, h2⟩ : ∃ x, x = S.th 0 := ⟨_, rfl⟩
  obtain ⟨t1, h3⟩ : ∃ x, x = S.th 1 := ⟨_, rfl⟩
  rw [← h0, ← h2] at hA'
  rw [← h1, ← h3] at hB'
  have A2 : (t0 : Int) < (x0 : Int) := by simpa using hA'
  have A3 : t0 < x0 := by omega
  have B2 : ¬ (t1 : Int) < (x1 : Int) := by simpa using hB'
  have B3 : ¬ t1 < x1 := by omega
  have E := Lib.hid (And.intro h0 (And.intro h1 (And.intro h2 h3)))
  have HQ0 := Lib.hid (best_r b e p t ce cp ct u v s 0 S w h (by decide))
  rw [HN.out] at HQ0
  clear h0 h1 h2 h3 hA hB
  go_enter Tryz.func93, Tryz.ntmps93
  go_wp2_with fail
  refine HQ0.out.mono ?_; rintro e0 w1 ⟨rfl, hb1⟩
  have H1 : Hid (IsRP w1 b e p t ce cp ct u v s S) := h.out.below hb1
  have HB1 := Lib.hid hb1
  have HQ1 := Lib.hid (best_r b e p t ce cp ct u v s 1 S w1 H1 (by decide))
  rw [HM.out] at HQ1
  clear hb1 HQ0 h
  go_wp2_with fail
  refine HQ1.out.mono ?_; rintro e0 w2 ⟨rfl, hb2⟩
  have H2 : Hid (IsRP w2 b e p t ce cp ct u v s S) := H1.out.below hb2
  have HB2 := Lib.hid (HB1.out.trans (hb2.mono HB1.out.size))
  clear hb2 HQ1 H1 HB1
  have K0 := cell_regrown H2.out.raw.c4
  have K1 := cell_regrown H2.out.raw.c5
  have K2 := cell_regrown (H2.out.raw.pr n n9).1
  have K3 := cell_regrown (H2.out.raw.th 0 (by decide)).1
  rw [← E.out.1] at K2
  rw [← E.out.2.2.1] at K3
  go_wp2_with fail
  refine wp_region_quiet_below (by kernel_rfl) (by kernel_rfl) ?_
  repeat (go_big_quiet_step (fail))
  refine wpQuiet_nil ?_
  intro _ hw'
  obtain ⟨⟨dq, osq⟩, hw''⟩ := hw'
  subst hw''
  have hb := below_regrown w2 dq osq
  generalize grow (redrawn w2 dq) osq = w3 at hb ⊢
  have H3 : Hid (IsRP w3 b e p t ce cp ct u v s S) := H2.out.below hb
  have HB3 := Lib.hid (HB2.out.trans (hb.mono HB2.out.size))
  clear K0 K1 K2 K3 hb H2 HB2
  have K0 := cell_regrown H3.out.raw.c4
  have K1 := cell_regrown H3.out.raw.c5
  have K2 := cell_regrown (H3.out.raw.pr m m9).1
  have K3 := cell_regrown (H3.out.raw.th 1 (by decide)).1
  rw [← E.out.2.1] at K2
  rw [← E.out.2.2.2] at K3
  go_wp2_with fail
  refine wp_region_quiet_below (by kernel_rfl) (by kernel_rfl) ?_
  repeat (go_big_quiet_step (fail))
  refine wpQuiet_nil ?_
  intro _ hw'
  obtain ⟨⟨dq, osq⟩, hw''⟩ := hw'
  subst hw''
  have hb := below_regrown w3 dq osq
  generalize grow (redrawn w3 dq) osq = w4 at hb ⊢
  have HB4 := Lib.hid (HB3.out.trans (hb.mono HB3.out.size))
  clear K0 K1 K2 K3 hb H3 HB3
  go_wp2_with fail
  go_ret
  exact retU_mk rfl HB4.out
set_option maxRecDepth 100000 in
theorem pendr_11 (b e p t ce cp ct u v s : Nat) (S : St) (w : World) (h : Hid (IsRP w b e p t ce cp ct u v s S)) (n m : Nat) (n9 : n < 9) (m9 : m < 9) (HN : Hid (best S 0 = n)) (HM : Hid (best S 1 = m)) (hA : decide (S.th 0 < S.pr n) = true) (hB : decide (S.th 1 < S.pr m) = true) : Calls Tryz.prog 93 #[.pointer (some ⟨b, 0, none⟩)] w (RetU 2560 w) := by
  have n9' : (n : Int) < 9 := by omega
  have m9' : (m : Int) < 9 := by omega
  have nt : ((n : Nat) : Int).toNat = n := by omega
  have mt : ((m : Nat) : Int).toNat = m := by omega
  have hcp := h.out.raw.hcp
  have hct := h.out.raw.hct
  have hA' : decide (((S.th 0 : Nat) : Int) < ((S.pr n : Nat) : Int)) = true := by rw [← hA]; exact decide_eq_decide.2 (by omega)
  have hB' : decide (((S.th 1 : Nat) : Int) < ((S.pr m : Nat) : Int)) = true := by rw [← hB]; exact decide_eq_decide.2 (by omega)
  obtain ⟨x0, h0⟩ : ∃ x, x = S.pr n := ⟨_, rfl⟩
  obtain ⟨x1, h1⟩ : ∃ x, x = S.pr m := ⟨_, rfl⟩
  obtain ⟨t0, h2⟩ : ∃ x, x = S.th 0 := ⟨_, rfl⟩
  obtain ⟨t1, h3⟩ : ∃ x, x = S.th 1 := ⟨_, rfl⟩
  rw [← h0, ← h2] at hA'
  rw [← h1, ← h3] at hB'
  have A2 : (t0 : Int) < (x0 : Int) := by simpa using hA'
  have A3 : t0 < x0 := by omega
  have B2 : (t1 : Int) < (x1 : Int) := by simpa using hB'
  have B3 : t1 < x1 := by omega
  have E := Lib.hid (And.intro h0 (And.intro h1 (And.intro h2 h3)))
  have HQ0 := Lib.hid (best_r b e p t ce cp ct u v s 0 S w h (by decide))
  rw [HN.out] at HQ0
  clear h0 h1 h2 h3 hA hB
  go_enter Tryz.func93, Tryz.ntmps93
  go_wp2_with fail
  refine HQ0.out.mono ?_; rintro e0 w1 ⟨rfl, hb1⟩
  have H1 : Hid (IsRP w1 b e p t ce cp ct u v s S) := h.out.below hb1
  have HB1 := Lib.hid hb1
  have HQ1 := Lib.hid (best_r b e p t ce cp ct u v s 1 S w1 H1 (by decide))
  rw [HM.out] at HQ1
  clear hb1 HQ0 h
  go_wp2_with fail
  refine HQ1.out.mono ?_; rintro e0 w2 ⟨rfl, hb2⟩
  have H2 : Hid (IsRP w2 b e p t ce cp ct u v s S) := H1.out.below hb2
  have HB2 := Lib.hid (HB1.out.trans (hb2.mono HB1.out.size))
  clear hb2 HQ1 H1 HB1
  have K0 := cell_regrown H2.out.raw.c4
  have K1 := cell_regrown H2.out.raw.c5
  have K2 := cell_regrown (H2.out.raw.pr n n9).1
  have K3 := cell_regrown (H2.out.raw.th 0 (by decide)).1
  rw [← E.out.1] at K2
  rw [← E.out.2.2.1] at K3
  go_wp2_with fail
  refine wp_region_quiet_below (by kernel_rfl) (by kernel_rfl) ?_
  repeat (go_big_quiet_step (fail))
  refine wpQuiet_nil ?_
  intro _ hw'
  obtain ⟨⟨dq, osq⟩, hw''⟩ := hw'
  subst hw''
  have hb := below_regrown w2 dq osq
  generalize grow (redrawn w2 dq) osq = w3 at hb ⊢
  have H3 : Hid (IsRP w3 b e p t ce cp ct u v s S) := H2.out.below hb
  have HB3 := Lib.hid (HB2.out.trans (hb.mono HB2.out.size))
  clear K0 K1 K2 K3 hb H2 HB2
  have K0 := cell_regrown H3.out.raw.c4
  have K1 := cell_regrown H3.out.raw.c5
  have K2 := cell_regrown (H3.out.raw.pr m m9).1
  have K3 := cell_regrown (H3.out.raw.th 1 (by decide)).1
  rw [← E.out.2.1] at K2
  rw [← E.out.2.2.2] at K3
  go_wp2_with fail
  refine wp_region_quiet_below (by kernel_rfl) (by kernel_rfl) ?_
  repeat (go_big_quiet_step (fail))
  refine wpQuiet_nil ?_
  intro _ hw'
  obtain ⟨⟨dq, osq⟩, hw''⟩ := hw'
  subst hw''
  have hb := below_regrown w3 dq osq
  generalize grow (redrawn w3 dq) osq = w4 at hb ⊢
  have HB4 := Lib.hid (HB3.out.trans (hb.mono HB3.out.size))
  clear K0 K1 K2 K3 hb H3 HB3
  go_wp2_with fail
  go_ret
  exact retU_mk rfl HB4.out
theorem pend_r (b e p t ce cp ct u v s : Nat) (S : St) (w : World) (h : Hid (IsRP w b e p t ce cp ct u v s S)) : Calls Tryz.prog 93 #[.pointer (some ⟨b, 0, none⟩)] w (RetU (pendF S) w) := by
  have e0 : pendF S = (bif aboveB S 0 then 2048 else 0) + (bif aboveB S 1 then 512 else 0) := rfl
  have n9 := best_lt S 0 7
  have m9 := best_lt S 1 7
  cases hA : aboveB S 0
  · cases hB : aboveB S 1
    · rw [hA, hB] at e0; rw [e0]; exact pendr_00 b e p t ce cp ct u v s S w h _ _ n9 m9 rfl rfl hA hB
    · rw [hA, hB] at e0; rw [e0]; exact pendr_01 b e p t ce cp ct u v s S w h _ _ n9 m9 rfl rfl hA hB
  · cases hB : aboveB S 1
    · rw [hA, hB] at e0; rw [e0]; exact pendr_10 b e p t ce cp ct u v s S w h _ _ n9 m9 rfl rfl hA hB
    · rw [hA, hB] at e0; rw [e0]; exact pendr_11 b e p t ce cp ct u v s S w h _ _ n9 m9 rfl rfl hA hB
end Go.Proofs.YtoicpikkcefheaaGreat.P
