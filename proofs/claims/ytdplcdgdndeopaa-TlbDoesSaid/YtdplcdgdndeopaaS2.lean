/- TlbDoes, walked. -/
import Derived.Test.YtdplcdgdndeopaaG2
namespace Go.Proofs.Ytdplcdgdndeopaa
open Go.ChangeShapes Go.WideShapes Go.ChangeAt Go.RowKit Go.Sort
set_option linter.unusedVariables false
set_option linter.unusedSimpArgs false
theorem rowxr {w : World} {g : Nat} {ad sp lf : Nat} {lv : Int} {gl : Bool} (h : Row w g 36 (En.v ⟨ad, lv, sp, gl, lf⟩)) : w.cell? ⟨g, 0, none⟩ = some (.int .u64 (ad : Nat)) ∧ w.cell? ⟨g, 1, none⟩ = some (.int .i64 lv) ∧ w.cell? ⟨g, 2, none⟩ = some (.int .u64 (sp : Nat)) ∧ w.cell? ⟨g, 3, none⟩ = some (.bool gl) ∧ w.cell? ⟨g, 4, none⟩ = some (.int .u64 (lf : Nat)) :=
  ⟨(h.cell 0).trans rfl, (h.cell 1).trans rfl, (h.cell 2).trans rfl, (h.cell 3).trans rfl, (h.cell 4).trans rfl⟩
set_option maxRecDepth 100000 in
set_option maxHeartbeats 8000000 in
theorem does_core {T : Nat → St → Th} (O : Hid (TlbOk T)) (W : World) (sd b0 o0 N cap : Nat) (sl : Option Addr) (Xs : Nat → Sx) (ha : Hid (sd < 18446744073709551616)) (hS : Hid (Steps W b0 o0 N Xs)) (hsl : Hid (0 < N → sl = some ⟨b0, o0, none⟩ ∧ b0 < W.heap.size)) (hN : Hid (N < 2932031007403)) :
    Calls Try.prog 3 #[.int .u64 (sd : Nat), .slice sl N cap] W (RetB true W) := by
  go_enter Try.func3, Try.ntmps3
  go_upto_region 3 with (go_at_call 8; refine (fixed_c O.out _).mono ?_; rintro e w1 ⟨rfl, hb1⟩; have H1 := Lib.hid (grp_nil hb1); clear hb1)
  go_upto_region 4 with (go_at_call 9; refine (newG O.out H1.out sd ha.out).mono ?_; rintro e w2 ⟨tb0, rfl, h⟩; have H2 : Hid (Grp W [T tb0 (S0 sd)] w2) := h; clear h H1)
  go_upto_block 0 with (go_at_call 10; refine (newG tr_ok H2.out sd ha.out).mono ?_; rintro e w3 ⟨rb0, rfl, h⟩; have H0 : Hid (Grp W [T tb0 (S0 sd), eTR rb0 (S0 sd)] w3) := h; clear h H2)
  go_wp2_with fail
  go_loopg [5, 6, 7] N (fun gg tv rv iv wr => ∃ (k : Nat) (X : St) (tb rb : Nat), k + gg = N ∧ iv = .int .i64 k ∧ tv = .pointer (some ⟨tb, 0, none⟩) ∧ rv = .pointer (some ⟨rb, 0, none⟩) ∧ Hid X.Ok ∧ Hid (Grp W [T tb X, eTR rb X] wr))
  case atStart => exact ⟨0, S0 sd, tb0, rb0, by omega, rfl, rfl, rfl, S0_ok sd ha.out, H0.out⟩
  case round =>
    obtain ⟨k, X, tb, rb, hk, rfl, rfl, rfl, hX, hr⟩ := hrel
    clear H0
    cases gk with
    | zero =>
      obtain rfl : k = N := by omega
      obtain ⟨LS, hLS⟩ : ∃ LS, allS X = LS := ⟨_, rfl⟩
      obtain ⟨m, hm⟩ : ∃ m, LS.length = m := ⟨_, rfl⟩
      have hm8 : m ≤ 8 := by rw [← hm, ← hLS]; exact allK_len X 8
      have HA1 : Hid (∀ u, Grp W [T tb X, eTR rb X] u → Calls Try.prog 20 #[.pointer (some ⟨tb, 0, none⟩)] u (fun e0 w' => ∃ a c, e0 = .returned (.slice a m c) ∧ OwnE 33 w' u.heap.size (.slice a m c) LS ∧ Grp W [T tb X, eTR rb X] w' ∧ Below u.heap.size u w')) := fun u h => by
        refine (allG O.out h 0 rfl hX.out).mono ?_
        rintro e0 w' ⟨v, rfl, h1, h2, h3⟩
        obtain ⟨a, c, rfl⟩ := h1.slice
        rw [hLS] at h1
        rw [hLS, hm]
        rw [hm] at h1
        exact ⟨a, c, rfl, h1, h2, h3⟩
      have HA2 : Hid (∀ u, Grp W [T tb X, eTR rb X] u → Calls Try.prog 21 #[.pointer (some ⟨rb, 0, none⟩)] u (fun e0 w' => ∃ a c, e0 = .returned (.slice a m c) ∧ OwnE 36 w' u.heap.size (.slice a m c) LS ∧ Grp W [T tb X, eTR rb X] w' ∧ Below u.heap.size u w')) := fun u h => by
        refine (allG tr_ok h 1 rfl hX.out).mono ?_
        rintro e0 w' ⟨v, rfl, h1, h2, h3⟩
        obtain ⟨a, c, rfl⟩ := h1.slice
        rw [hLS] at h1
        rw [hLS, hm]
        rw [hm] at h1
        exact ⟨a, c, rfl, h1, h2, h3⟩
      have HS := Lib.hid (fun b1 b2 a1 a2 c1 c2 u h1 h2 => same_c b1 b2 a1 a2 m c1 c2 LS u (Lib.hid hm) (Lib.hid (Nat.le_trans hm8 (by decide : 8 ≤ 1000))) (Lib.hid h1) (Lib.hid h2))
      clear hm hm8 hLS
      go_upto_region 42 with (first
        | (go_at_call 20; refine (HA1.out _ hr.out).mono ?_; rintro e0 w3 ⟨a3, c3, rfl, o3, h3, b3⟩; have H3 := Lib.hid h3; have O3 := Lib.hid o3; have B3 := Lib.hid b3; clear h3 o3 b3)
        | (go_at_call 21; refine (HA2.out _ H3.out).mono ?_; rintro e0 w4 ⟨a4, c4, rfl, o4, h4, b4⟩; have H4 := Lib.hid h4; have O4 := Lib.hid o4; have B4 := Lib.hid b4; have O34 := Lib.hid (O3.out.below b4); clear h4 o4 b4))
      go_wp2_with (go_at_call 22; refine (HS.out _ _ _ _ _ _ _ O34.out O4.out).mono ?_; rintro e0 w5 ⟨rfl, h5⟩; have H5 := Lib.hid (H4.out.below h5); clear h5)
      go_ret
      exact retB_mk rfl H5.out.out
    | succ gg =>
      have hlt : (k : Int) < N := by omega
      have hkN : k < N := by omega
      obtain ⟨rfl, hbl⟩ := hsl.out (by omega)
      have kk1 : IntKind.i64.wrap ((k : Int) + 1) = (k : Int) + 1 := by have := hN.out; exact IntWalk.i64_in _ (by omega)
      obtain ⟨kd, ad, sp, lf, lv, gl, hx⟩ : ∃ kd ad sp lf lv gl, Xs k = ⟨kd, ⟨ad, lv, sp, gl, lf⟩⟩ := ⟨_, _, _, _, _, _, rfl⟩
      obtain ⟨hc, hwf⟩ := steps_at hS.out hbl hr.out.out hkN hx
      have HC := Lib.hid hc
      have HWF := Lib.hid hwf
      clear hc hwf hx hkN hbl
      have HX : Hid (Grp W [T tb X, eTR rb X, eRow wr.heap.size 30 (stC kd lv ad sp lf gl)] (wr.alloc (Obj.cells #[.int .i64 kd, .int .u64 (ad : Nat), .int .i64 lv, .int .u64 (sp : Nat), .bool gl, .int .u64 (lf : Nat)] 30))) := newBox hr.out 30 (stC kd lv ad sp lf gl)
      go_upto_region 9 with (refine wpList_load_at rfl 30 _ rfl b0 (o0 + k * 6) rfl #[.int .i64 kd, .int .u64 (ad : Nat), .int .i64 lv, .int .u64 (sp : Nat), .bool gl, .int .u64 (lf : Nat)] _ HC.out Try.underlying30 rfl (info_stC kd lv ad sp lf gl) ?_)
      generalize wr.alloc (Obj.cells #[.int .i64 kd, .int .u64 (ad : Nat), .int .i64 lv, .int .u64 (sp : Nat), .bool gl, .int .u64 (lf : Nat)] 30) = u1 at HX ⊢
      generalize wr.heap.size = g at HX ⊢
      clear hr HC
      obtain ⟨x0, x1, x2, x3, x4, x5⟩ := st6 (rowAt HX.out 2 rfl).2
      by_cases e0 : kd = 0
      · 
        subst e0
        have HP1 : Hid (∀ u, Grp W [T tb X, eTR rb X, eRow g 30 (stC 0 lv ad sp lf gl)] u → Calls Try.prog 11 #[.pointer (some ⟨tb, 0, none⟩), .agg #[.int .u64 (ad : Nat), .int .i64 lv, .int .u64 (sp : Nat), .bool gl, .int .u64 (lf : Nat)]] u (fun e0 w' => e0 = .returned (.bool (okP ⟨ad, lv, sp, gl, lf⟩)) ∧ Grp W [T tb (putS X ⟨ad, lv, sp, gl, lf⟩), eTR rb X, eRow g 30 (stC 0 lv ad sp lf gl)] w')) := fun u h => putG O.out h 0 rfl hX.out ⟨ad, lv, sp, gl, lf⟩ HWF.out
        have HP2 : Hid (∀ u, Grp W [T tb (putS X ⟨ad, lv, sp, gl, lf⟩), eTR rb X, eRow g 30 (stC 0 lv ad sp lf gl)] u → Calls Try.prog 13 #[.pointer (some ⟨rb, 0, none⟩), .agg #[.int .u64 (ad : Nat), .int .i64 lv, .int .u64 (sp : Nat), .bool gl, .int .u64 (lf : Nat)]] u (fun e0 w' => e0 = .returned (.bool (okP ⟨ad, lv, sp, gl, lf⟩)) ∧ Grp W [T tb (putS X ⟨ad, lv, sp, gl, lf⟩), eTR rb (putS X ⟨ad, lv, sp, gl, lf⟩), eRow g 30 (stC 0 lv ad sp lf gl)] w')) := fun u h => putG tr_ok h 1 rfl hX.out ⟨ad, lv, sp, gl, lf⟩ HWF.out
        have HOK := Lib.hid (putS_ok X hX.out _ HWF.out)
        generalize okP ⟨ad, lv, sp, gl, lf⟩ = ok at HP1 HP2
        generalize putS X ⟨ad, lv, sp, gl, lf⟩ = X2 at HP1 HP2 HOK
        go_upto_region 21 with (first
          | (go_at_call 12; refine (entry_c 0 lv ad sp lf gl _).mono ?_; rintro e0 w3 ⟨rfl, hbx⟩; have H3 : Hid (Grp W [T tb X, eTR rb X, eRow g 30 (stC 0 lv ad sp lf gl)] w3) := HX.out.below (w' := w3) (by repeat (first | (with_reducible first | exact Below.refl _ _ | assumption | exact Nat.le_refl _ | refine Below.drew ?_ | refine Below.alloc ?_ ?_ _ | refine Below.setCell ?_ ?_ _ | refine le_alloc ?_ | refine le_set ?_ | refine le_drew ?_ | refine below_step (by assumption) ?_ ?_ | refine le_below (by assumption) ?_) | (dsimp only; omega))); clear hbx)
          | (go_at_call 11; refine (HP1.out _ H3.out).mono ?_; rintro e0 w4 ⟨rfl, h4⟩; have H4 := Lib.hid h4; clear h4))
        obtain ⟨y0, y1, y2, y3, y4, y5⟩ := st6 (rowAt H4.out 2 rfl).2
        go_wp2_with (first
          | (go_at_call 12; refine (entry_c 0 lv ad sp lf gl _).mono ?_; rintro e0 w5 ⟨rfl, hbx⟩; have H5 : Hid (Grp W [T tb X2, eTR rb X, eRow g 30 (stC 0 lv ad sp lf gl)] w5) := H4.out.below (w' := w5) (by repeat (first | (with_reducible first | exact Below.refl _ _ | assumption | exact Nat.le_refl _ | refine Below.drew ?_ | refine Below.alloc ?_ ?_ _ | refine Below.setCell ?_ ?_ _ | refine le_alloc ?_ | refine le_set ?_ | refine le_drew ?_ | refine below_step (by assumption) ?_ ?_ | refine le_below (by assumption) ?_) | (dsimp only; omega))); clear hbx)
          | (go_at_call 13; refine (HP2.out _ H5.out).mono ?_; rintro e0 w6 ⟨rfl, h6⟩; have H6 := Lib.hid h6; clear h6))
        go_roundg gg
        case measure => omega
        exact ⟨k + 1, X2, tb, rb, by omega, by push_cast; rfl, rfl, rfl, HOK.out, H6.out.pick _ id (fun i E h => by
            match i, h with
            | 0, h => exact h
            | 1, h => exact h) (fun i j _ _ h => h)⟩

      · have d0 : (kd == 0) = false := by rw [beq_eq_false_iff_ne]; exact e0
        have d00 : decide (kd = 0) = false := decide_eq_false e0
        clear e0
        by_cases e1 : kd = 1
        · 
          subst e1
          clear d0 d00
          obtain ⟨fa, fl, fs, fg, ff, hF⟩ : ∃ fa fl fs fg ff, findE X sp ad = ⟨fa, fl, fs, fg, ff⟩ := ⟨_, _, _, _, _, rfl⟩
          have HP1 : Hid (∀ u, Grp W [T tb X, eTR rb X, eRow g 30 (stC 1 lv ad sp lf gl)] u → Calls Try.prog 14 #[.pointer (some ⟨tb, 0, none⟩), .int .u64 (sp : Nat), .int .u64 (ad : Nat)] u (fun e0 w' => e0 = .returned (.tuple #[.agg #[.int .u64 (fa : Nat), .int .i64 fl, .int .u64 (fs : Nat), .bool fg, .int .u64 (ff : Nat)], .bool (findB X sp ad)]) ∧ Grp W [T tb X, eTR rb X, eRow g 30 (stC 1 lv ad sp lf gl)] w')) := fun u h => by
            have := findG O.out h 0 rfl hX.out sp ad HWF.out.sp HWF.out.ad
            rw [hF] at this; exact this
          have HP2 : Hid (∀ u g3, Grp W [T tb X, eTR rb X, eRow g 30 (stC 1 lv ad sp lf gl), eRow g3 33 (En.v ⟨fa, fl, fs, fg, ff⟩)] u → Calls Try.prog 15 #[.pointer (some ⟨rb, 0, none⟩), .int .u64 (sp : Nat), .int .u64 (ad : Nat)] u (fun e0 w' => e0 = .returned (.tuple #[.agg #[.int .u64 (fa : Nat), .int .i64 fl, .int .u64 (fs : Nat), .bool fg, .int .u64 (ff : Nat)], .bool (findB X sp ad)]) ∧ Grp W [T tb X, eTR rb X, eRow g 30 (stC 1 lv ad sp lf gl), eRow g3 33 (En.v ⟨fa, fl, fs, fg, ff⟩)] w')) := fun u g3 h => by
            have := findG tr_ok h 1 rfl hX.out sp ad HWF.out.sp HWF.out.ad
            rw [hF] at this; exact this
          generalize findB X sp ad = B at HP1 HP2
          clear hF
          go_upto_region 26 with (first
            | (go_at_call 14; refine (HP1.out _ HX.out).mono ?_; rintro e0 w3 ⟨rfl, h3⟩; have H3 := Lib.hid h3; clear h3; have N3 := Lib.hid (newRow H3.out 33 E0.v (En.v ⟨fa, fl, fs, fg, ff⟩)))
            | (refine wpList_store_rowP (fun wx => Grp W [T tb X, eTR rb X, eRow g 30 (stC 1 lv ad sp lf gl), eRow w3.heap.size 33 (En.v ⟨fa, fl, fs, fg, ff⟩)] wx) rfl 33 _ _ rfl w3.heap.size #[.int .u64 (fa : Nat), .int .i64 fl, .int .u64 (fs : Nat), .bool fg, .int .u64 (ff : Nat)] rfl rfl 33 E0.v (row_new _ _ _) (info_te ⟨fa, fl, fs, fg, ff⟩) rfl (one_en ⟨fa, fl, fs, fg, ff⟩) N3.out ?_; rintro w4 h4; have H4 := Lib.hid h4; clear h4 N3))
          generalize w3.heap.size = g3 at H4 ⊢
          obtain ⟨y0, y1, y2, y3, y4, y5⟩ := st6 (rowAt H4.out 2 rfl).2
          go_upto_region 27 with (first
            | (go_at_call 15; refine (HP2.out _ _ H4.out).mono ?_; rintro e0 w5 ⟨rfl, h5⟩; have H5 := Lib.hid h5; clear h5; have N5 := Lib.hid (newRow H5.out 36 E0.v (En.v ⟨fa, fl, fs, fg, ff⟩)))
            | (refine wpList_store_rowP (fun wx => Grp W [T tb X, eTR rb X, eRow g 30 (stC 1 lv ad sp lf gl), eRow g3 33 (En.v ⟨fa, fl, fs, fg, ff⟩), eRow w5.heap.size 36 (En.v ⟨fa, fl, fs, fg, ff⟩)] wx) rfl 36 _ _ rfl w5.heap.size #[.int .u64 (fa : Nat), .int .i64 fl, .int .u64 (fs : Nat), .bool fg, .int .u64 (ff : Nat)] rfl rfl 36 E0.v (row_new _ _ _) (info_en ⟨fa, fl, fs, fg, ff⟩) rfl (one_en ⟨fa, fl, fs, fg, ff⟩) N5.out ?_; rintro w6 h6; have H6 := Lib.hid h6; clear h6 N5))
          generalize w5.heap.size = g5 at H6 ⊢
          clear H3 H4 H5 HX x0 x1 x2 x3 x4 x5 y0 y1 y2 y3 y4 y5
          obtain ⟨y0, y1, y2, y3, y4⟩ := rowx (rowAt H6.out 3 rfl).2
          obtain ⟨z0, z1, z2, z3, z4⟩ := rowxr (rowAt H6.out 4 rfl).2
          go_wp2_with fail
          go_roundg gg
          case measure => omega
          exact ⟨k + 1, X, tb, rb, by omega, by push_cast; rfl, rfl, rfl, hX.out, H6.out.pick _ id (fun i E h => by
            match i, h with
            | 0, h => exact h
            | 1, h => exact h) (fun i j _ _ h => h)⟩

        · have d1 : (kd == 1) = false := by rw [beq_eq_false_iff_ne]; exact e1
          have d11 : decide (kd = 1) = false := decide_eq_false e1
          clear e1
          by_cases e2 : kd = 2
          · 
            subst e2
            clear d0 d00 d1 d11
            have HP1 : Hid (∀ u, Grp W [T tb X, eTR rb X, eRow g 30 (stC 2 lv ad sp lf gl)] u → Calls Try.prog 16 #[.pointer (some ⟨tb, 0, none⟩), .bool (lv.tmod 2 != 0), .int .u64 (ad : Nat), .bool (decide (1 < lv)), .int .u64 (sp : Nat)] u (fun e0 w' => e0 = .returned (.tuple #[]) ∧ Grp W [T tb (fenceS X (lv.tmod 2 != 0) ad (decide (1 < lv)) sp), eTR rb X, eRow g 30 (stC 2 lv ad sp lf gl)] w')) := fun u h => fenceG O.out h 0 rfl hX.out (lv.tmod 2 != 0) ad (decide (1 < lv)) sp HWF.out.ad HWF.out.sp
            have HP2 : Hid (∀ u, Grp W [T tb (fenceS X (lv.tmod 2 != 0) ad (decide (1 < lv)) sp), eTR rb X, eRow g 30 (stC 2 lv ad sp lf gl)] u → Calls Try.prog 17 #[.pointer (some ⟨rb, 0, none⟩), .bool (lv.tmod 2 != 0), .int .u64 (ad : Nat), .bool (decide (1 < lv)), .int .u64 (sp : Nat)] u (fun e0 w' => e0 = .returned (.tuple #[]) ∧ Grp W [T tb (fenceS X (lv.tmod 2 != 0) ad (decide (1 < lv)) sp), eTR rb (fenceS X (lv.tmod 2 != 0) ad (decide (1 < lv)) sp), eRow g 30 (stC 2 lv ad sp lf gl)] w')) := fun u h => fenceG tr_ok h 1 rfl hX.out (lv.tmod 2 != 0) ad (decide (1 < lv)) sp HWF.out.ad HWF.out.sp
            have HOK := Lib.hid (fenceS_ok X hX.out (lv.tmod 2 != 0) ad (decide (1 < lv)) sp)
            generalize fenceS X (lv.tmod 2 != 0) ad (decide (1 < lv)) sp = X2 at HP1 HP2 HOK
            go_upto_region 31 with (go_at_call 16; refine (HP1.out _ HX.out).mono ?_; rintro e0 w3 ⟨rfl, h3⟩; have H3 := Lib.hid h3; clear h3)
            obtain ⟨y0, y1, y2, y3, y4, y5⟩ := st6 (rowAt H3.out 2 rfl).2
            go_wp2_with (go_at_call 17; refine (HP2.out _ H3.out).mono ?_; rintro e0 w4 ⟨rfl, h4⟩; have H4 := Lib.hid h4; clear h4)
            go_roundg gg
            case measure => omega
            exact ⟨k + 1, X2, tb, rb, by omega, by push_cast; rfl, rfl, rfl, HOK.out, H4.out.pick _ id (fun i E h => by
            match i, h with
            | 0, h => exact h
            | 1, h => exact h) (fun i j _ _ h => h)⟩

          · have d2 : (kd == 2) = false := by rw [beq_eq_false_iff_ne]; exact e2
            have d22 : decide (kd = 2) = false := decide_eq_false e2
            clear e2
            by_cases e3 : kd = 3
            · 
              subst e3
              clear d0 d00 d1 d11 d2 d22
              have HC1 : Hid (∀ u, Grp W [T tb X, eTR rb X, eRow g 30 (stC 3 lv ad sp lf gl)] u → Calls Try.prog 18 #[.pointer (some ⟨tb, 0, none⟩)] u (fun e0 w' => ∃ b', e0 = .returned (.pointer (some ⟨b', 0, none⟩)) ∧ Grp W [T tb X, eTR rb X, eRow g 30 (stC 3 lv ad sp lf gl), T b' X] w')) := fun u h => copyG O.out h 0 rfl hX.out
              have HC2 : Hid (∀ b2 u, Grp W [T tb X, eTR rb X, eRow g 30 (stC 3 lv ad sp lf gl), T b2 X] u → Calls Try.prog 19 #[.pointer (some ⟨rb, 0, none⟩)] u (fun e0 w' => ∃ b', e0 = .returned (.pointer (some ⟨b', 0, none⟩)) ∧ Grp W [T tb X, eTR rb X, eRow g 30 (stC 3 lv ad sp lf gl), T b2 X, eTR b' X] w')) := fun b2 u h => copyG tr_ok h 1 rfl hX.out
              have HP1 : Hid (∀ b2 b3 u, Grp W [T tb X, eTR rb X, eRow g 30 (stC 3 lv ad sp lf gl), T b2 X, eTR b3 X] u → Calls Try.prog 11 #[.pointer (some ⟨tb, 0, none⟩), .agg #[.int .u64 (ad : Nat), .int .i64 lv, .int .u64 (sp : Nat), .bool gl, .int .u64 (lf : Nat)]] u (fun e0 w' => e0 = .returned (.bool (okP ⟨ad, lv, sp, gl, lf⟩)) ∧ Grp W [T tb (putS X ⟨ad, lv, sp, gl, lf⟩), eTR rb X, eRow g 30 (stC 3 lv ad sp lf gl), T b2 X, eTR b3 X] w')) := fun b2 b3 u h => putG O.out h 0 rfl hX.out ⟨ad, lv, sp, gl, lf⟩ HWF.out
              have HF1 : Hid (∀ b2 b3 u, Grp W [T tb (putS X ⟨ad, lv, sp, gl, lf⟩), eTR rb X, eRow g 30 (stC 3 lv ad sp lf gl), T b2 X, eTR b3 X] u → Calls Try.prog 16 #[.pointer (some ⟨tb, 0, none⟩), .bool false, .int .u64 0, .bool false, .int .u64 0] u (fun e0 w' => e0 = .returned (.tuple #[]) ∧ Grp W [T tb (fenceS (putS X ⟨ad, lv, sp, gl, lf⟩) false 0 false 0), eTR rb X, eRow g 30 (stC 3 lv ad sp lf gl), T b2 X, eTR b3 X] w')) := fun b2 b3 u h => fenceG O.out h 0 rfl (putS_ok X hX.out _ HWF.out) false 0 false 0 (by decide) (by decide)
              generalize fenceS (putS X ⟨ad, lv, sp, gl, lf⟩) false 0 false 0 = X3 at HF1
              generalize putS X ⟨ad, lv, sp, gl, lf⟩ = X2 at HP1 HF1
              generalize okP ⟨ad, lv, sp, gl, lf⟩ = ok at HP1
              go_upto_region 38 with (first
                | (go_at_call 18; refine (HC1.out _ HX.out).mono ?_; rintro e0 w3 ⟨t2, rfl, h3⟩; have H3 := Lib.hid h3; clear h3)
                | (go_at_call 19; refine (HC2.out _ _ H3.out).mono ?_; rintro e0 w4 ⟨r2, rfl, h4⟩; have H4 := Lib.hid h4; clear h4))
              obtain ⟨y0, y1, y2, y3, y4, y5⟩ := st6 (rowAt H4.out 2 rfl).2
              go_wp2_with (first
                | (go_at_call 12; refine (entry_c 3 lv ad sp lf gl _).mono ?_; rintro e0 w5 ⟨rfl, hbx⟩; have H5 : Hid (Grp W [T tb X, eTR rb X, eRow g 30 (stC 3 lv ad sp lf gl), T t2 X, eTR r2 X] w5) := H4.out.below (w' := w5) (by repeat (first | (with_reducible first | exact Below.refl _ _ | assumption | exact Nat.le_refl _ | refine Below.drew ?_ | refine Below.alloc ?_ ?_ _ | refine Below.setCell ?_ ?_ _ | refine le_alloc ?_ | refine le_set ?_ | refine le_drew ?_ | refine below_step (by assumption) ?_ ?_ | refine le_below (by assumption) ?_) | (dsimp only; omega))); clear hbx)
                | (go_at_call 11; refine (HP1.out _ _ _ H5.out).mono ?_; rintro e0 w6 ⟨rfl, h6⟩; have H6 := Lib.hid h6; clear h6)
                | (go_at_call 16; refine (HF1.out _ _ _ H6.out).mono ?_; rintro e0 w7 ⟨rfl, h7⟩; have H7 := Lib.hid h7; clear h7))
              go_roundg gg
              case measure => omega
              exact ⟨k + 1, X, t2, r2, by omega, by push_cast; rfl, rfl, rfl, hX.out, H7.out.pick _ (fun i => i + 3) (fun i E h => by
                match i, h with
                | 0, h => exact h
                | 1, h => exact h) (fun i j _ _ h e => h (Nat.add_right_cancel e))⟩

            · 
              have d3 : (kd == 3) = false := by rw [beq_eq_false_iff_ne]; exact e3
              have d33 : decide (kd = 3) = false := decide_eq_false e3
              clear e3
              obtain ⟨LS, hLS⟩ : ∃ LS, allS X = LS := ⟨_, rfl⟩
              obtain ⟨m, hm⟩ : ∃ m, LS.length = m := ⟨_, rfl⟩
              have hm8 : m ≤ 8 := by rw [← hm, ← hLS]; exact allK_len X 8
              have HA1 : Hid (∀ u, Grp W [T tb X, eTR rb X, eRow g 30 (stC kd lv ad sp lf gl)] u → Calls Try.prog 20 #[.pointer (some ⟨tb, 0, none⟩)] u (fun e0 w' => ∃ a c, e0 = .returned (.slice a m c) ∧ OwnE 33 w' u.heap.size (.slice a m c) LS ∧ Grp W [T tb X, eTR rb X, eRow g 30 (stC kd lv ad sp lf gl)] w' ∧ Below u.heap.size u w')) := fun u h => by
                refine (allG O.out h 0 rfl hX.out).mono ?_
                rintro e0 w' ⟨v, rfl, h1, h2, h3⟩
                obtain ⟨a, c, rfl⟩ := h1.slice
                rw [hLS] at h1
                rw [hLS, hm]
                rw [hm] at h1
                exact ⟨a, c, rfl, h1, h2, h3⟩
              have HA2 : Hid (∀ u, Grp W [T tb X, eTR rb X, eRow g 30 (stC kd lv ad sp lf gl)] u → Calls Try.prog 21 #[.pointer (some ⟨rb, 0, none⟩)] u (fun e0 w' => ∃ a c, e0 = .returned (.slice a m c) ∧ OwnE 36 w' u.heap.size (.slice a m c) LS ∧ Grp W [T tb X, eTR rb X, eRow g 30 (stC kd lv ad sp lf gl)] w' ∧ Below u.heap.size u w')) := fun u h => by
                refine (allG tr_ok h 1 rfl hX.out).mono ?_
                rintro e0 w' ⟨v, rfl, h1, h2, h3⟩
                obtain ⟨a, c, rfl⟩ := h1.slice
                rw [hLS] at h1
                rw [hLS, hm]
                rw [hm] at h1
                exact ⟨a, c, rfl, h1, h2, h3⟩
              have HM := Lib.hid hm
              have HM8 := Lib.hid hm8
              have HS := Lib.hid (fun b1 b2 a1 a2 c1 c2 u h1 h2 => same_c b1 b2 a1 a2 m c1 c2 LS u (Lib.hid hm) (Lib.hid (Nat.le_trans hm8 (by decide : 8 ≤ 1000))) (Lib.hid h1) (Lib.hid h2))
              clear hm hm8 hLS
              go_upto_region 12 with (first
                | (go_at_call 20; refine (HA1.out _ HX.out).mono ?_; rintro e0 w3 ⟨a3, c3, rfl, o3, h3, b3⟩; have H3 := Lib.hid h3; have O3 := Lib.hid o3; have B3 := Lib.hid b3; clear h3 o3 b3)
                | (go_at_call 21; refine (HA2.out _ H3.out).mono ?_; rintro e0 w4 ⟨a4, c4, rfl, o4, h4, b4⟩; have H4 := Lib.hid h4; have O4 := Lib.hid o4; have B4 := Lib.hid b4; have O34 := Lib.hid (O3.out.below b4); clear h4 o4 b4))
              go_upto_block 3 with (go_at_call 22; refine (HS.out _ _ _ _ _ _ _ O34.out O4.out).mono ?_; rintro e0 w5 ⟨rfl, h5⟩; have O5 := Lib.hid (O34.out.below h5); have B5 : Hid (Below u1.heap.size u1 w5) := below_step h5 (below_step B4.out B3.out B3.out.size) (Nat.le_trans B3.out.size B4.out.size); clear h5)
              clear H3 H4 O3 O4 O34 B3 B4 HA1 HA2 HS x0 x1 x2 x3 x4 x5
              obtain ⟨LZ, hLZ, hLZm⟩ : ∃ LZ : List En, LZ = LS ∧ LZ.length = m := ⟨_, rfl, HM.out⟩
              rw [← hLZ] at O5
              have HZ := Lib.hid hLZm
              clear hLZ hLZm
              go_wp2_with fail
              go_loopg [18] m (fun g2 jv ur => ∃ (j : Nat) (LZ : List En), j + g2 = m ∧ jv = .int .i64 j ∧ Hid (LZ.length = m) ∧ Hid (OwnE 33 ur u1.heap.size (.slice a3 m c3) LZ ∧ Below u1.heap.size u1 ur))
              case atStart => exact ⟨0, LZ, by omega, rfl, HZ.out, O5.out, B5.out⟩
              case round =>
                obtain ⟨j, LY, hj, rfl, hy, hu⟩ := hrel
                clear O5 B5 HZ
                cases gk with
                | zero =>
                  obtain rfl : j = m := by omega
                  have HBA : Hid (Below wr.heap.size wr (wr.alloc (Obj.cells E0.v 33))) := by show Below _ _ _; exact (Below.refl _ _).alloc (Nat.le_refl _) _
                  have hub := hu.out.2.size
                  have HU := Lib.hid hub
                  clear hub
                  go_wp2_with (refine append_e infoT rfl _ _ rfl u1.heap.size (.slice a3 j c3) LY rfl (hu.out.1.below HBA.out) (by have := hy.out; have := HM8.out; omega) wr.heap.size (.slice (some ⟨wr.heap.size, 0, none⟩) 1 1) [E0] rfl (own_built _ wr wr.heap.size 1 _ [E0] (Nat.le_refl _) rfl (by decide) rfl) ⟨Nat.one_pos, (by decide : 1 ≤ 500)⟩ (Nat.le_trans HU.out HBA.out.size) (by have := hy.out; have := HM8.out; show (LY.length + 1) * 40 ≤ _; omega) ?_; intro v2 w7 q1 q2 q3)
                  have hb7 : Below u1.heap.size wr w7 := below_step ((hu.out.1.below HBA.out).grown q2 (Nat.le_trans HU.out HBA.out.size)) (HBA.out.mono HU.out) (Nat.le_refl _)
                  have H7 := Lib.hid (HX.out.below (hu.out.2.trans hb7))
                  clear q1 q2 q3 hb7
                  go_wp2_with fail
                  go_roundg gg
                  case measure => omega
                  exact ⟨k + 1, X, tb, rb, by omega, by push_cast; rfl, rfl, rfl, hX.out, H7.out.pick _ id (fun i E h => by
            match i, h with
            | 0, h => exact h
            | 1, h => exact h) (fun i j _ _ h => h)⟩
                | succ g2 =>
                  have hjm : j < m := by omega
                  have jlt : (j : Int) < m := by omega
                  have jj1 : IntKind.i64.wrap ((j : Int) + 1) = (j : Int) + 1 := by have := HM8.out; exact IntWalk.i64_in _ (by omega)
                  obtain ⟨gz, cur, new, rfl, hbg, hg, hfit, hnew, hown⟩ := hu.out.1.lay hjm ⟨77, 0, 0, false, 0⟩
                  have HO : Hid (OwnE 33 (wr.setRow gz new) u1.heap.size (.slice (some ⟨gz, 0, none⟩) m c3) (LY.set j ⟨77, 0, 0, false, 0⟩) ∧ Below u1.heap.size u1 (wr.setRow gz new)) := ⟨hown, below_setRow hu.out.2 hbg _⟩
                  have HG := Lib.hid hg
                  have HFIT := Lib.hid hfit
                  have HNEW := Lib.hid hnew
                  have HLY : Hid ((LY.set j ⟨77, 0, 0, false, 0⟩).length = m) := by show _ = _; rw [List.length_set]; exact hy.out
                  generalize LY.set j ⟨77, 0, 0, false, 0⟩ = LZ2 at HO HLY
                  clear hbg hg hfit hnew hown
                  go_wp2_with (refine wpList_store_atP (fun wx => OwnE 33 wx u1.heap.size (.slice (some ⟨gz, 0, none⟩) m c3) LZ2 ∧ Below u1.heap.size u1 wx) rfl 33 _ _ rfl gz (j * 5) #[.int .u64 77, .int .i64 0, .int .u64 0, .bool false, .int .u64 0] rfl rfl 33 cur new HG.out (info_te ⟨77, 0, 0, false, 0⟩) HFIT.out HNEW.out (one_en ⟨77, 0, 0, false, 0⟩) HO.out ?_; rintro w8 h8; have H8 := Lib.hid h8; clear h8 HO HG)
                  go_roundg g2
                  case measure => omega
                  exact ⟨j + 1, LZ2, by omega, by push_cast; rfl, HLY.out, H8.out⟩

end Go.Proofs.Ytdplcdgdndeopaa
