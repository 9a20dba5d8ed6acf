/- TlbSeeds, walked. -/
import Derived.Test.YtdplcdgdndeopaaG1
namespace Go.Proofs.Ytdplcdgdndeopaa
open Go.ChangeShapes Go.WideShapes Go.ChangeAt Go.RowKit Go.Sort
set_option linter.unusedVariables false
set_option linter.unusedSimpArgs false
/-- Two of them that are alike but for their seeds. -/
structure Tw (T : Nat → St → Th) (W : World) (sa sb tb ub p : Nat) (e : Nat → En) (is : Nat → Bool) (l : List Th) (u : World) : Prop where
  a : St.Ok ⟨e, is, sa⟩
  b : St.Ok ⟨e, is, sb⟩
  c : cnt is ≤ p
  g : Grp W ([T tb ⟨e, is, sa⟩, T ub ⟨e, is, sb⟩] ++ l) u
set_option maxRecDepth 100000 in
set_option maxHeartbeats 8000000 in
theorem seeds_core {T : Nat → St → Th} (O : Hid (TlbOk T)) (W : World) (sa sb b0 o0 N cap : Nat) (sl : Option Addr) (X : Nat → Sx) (ha : Hid (sa < 18446744073709551616)) (hb : Hid (sb < 18446744073709551616)) (hS : Hid (Steps W b0 o0 N X)) (hsl : Hid (0 < N → sl = some ⟨b0, o0, none⟩ ∧ b0 < W.heap.size)) (hN : Hid (N < 2932031007403)) :
    Calls Try.prog 5 #[.int .u64 (sa : Nat), .int .u64 (sb : Nat), .slice sl N cap] W (RetB true W) := by
  go_enter Try.func5, Try.ntmps5
  go_upto_region 3 with (go_at_call 8; refine (fixed_c O.out _).mono ?_; rintro e w1 ⟨rfl, hb1⟩; have H1 := Lib.hid (grp_nil hb1); clear hb1)
  go_upto_region 4 with (go_at_call 9; refine (newG O.out H1.out sa ha.out).mono ?_; rintro e w2 ⟨tb, rfl, h⟩; have H2 : Hid (Grp W [T tb (S0 sa)] w2) := h; clear h H1)
  go_upto_block 0 with (go_at_call 9; refine (newG O.out H2.out sb hb.out).mono ?_; rintro e w3 ⟨ub, rfl, h⟩; have H3 : Hid (Grp W [T tb (S0 sa), T ub (S0 sb)] w3) := h; clear h H2)
  have H0 : Hid (Tw T W sa sb tb ub 0 (fun _ => E0) (fun _ => false) [] w3) := ⟨S0_ok sa ha.out, S0_ok sb hb.out, by decide, H3.out⟩
  clear H3
  go_wp2_with fail
  go_loopg [9, 10] N (fun gg pv iv wr => ∃ (k p : Nat) (e : Nat → En) (is : Nat → Bool), k + gg = N ∧ iv = .int .i64 k ∧ pv = .int .i64 p ∧ Hid (p ≤ 8) ∧ Hid (Tw T W sa sb tb ub p e is [] wr))
  case atStart => exact ⟨0, 0, _, _, by omega, rfl, rfl, Nat.zero_le _, H0.out⟩
  case round =>
    obtain ⟨k, p, e, is, hk, rfl, rfl, hp, hr⟩ := hrel
    clear H0
    cases gk with
    | zero =>
      obtain rfl : k = N := by omega
      go_wp2_with fail
      go_ret
      exact retB_mk rfl hr.out.g.out
    | succ gg =>
      have hlt : (k : Int) < N := by omega
      have hkN : k < N := by omega
      obtain ⟨rfl, hbl⟩ := hsl.out (by omega)
      have kk1 : IntKind.i64.wrap ((k : Int) + 1) = (k : Int) + 1 := by have := hN.out; exact IntWalk.i64_in _ (by omega)
      have pp1 : IntKind.i64.wrap ((p : Int) + 1) = (p : Int) + 1 := by have := hp.out; exact IntWalk.i64_in _ (by omega)
      obtain ⟨kd, ad, sp, lf, lv, gl, hx⟩ : ∃ kd ad sp lf lv gl, X k = ⟨kd, ⟨ad, lv, sp, gl, lf⟩⟩ := ⟨_, _, _, _, _, _, rfl⟩
      obtain ⟨hc, hwf⟩ := steps_at hS.out hbl hr.out.g.out hkN hx
      have HC := Lib.hid hc
      have HWF := Lib.hid hwf
      clear hc hwf hx hkN
      have HX : Hid (Grp W ([T tb ⟨e, is, sa⟩, T ub ⟨e, is, sb⟩] ++ [eRow wr.heap.size 30 (stC kd lv ad sp lf gl)]) (wr.alloc (Obj.cells #[.int .i64 kd, .int .u64 (ad : Nat), .int .i64 lv, .int .u64 (sp : Nat), .bool gl, .int .u64 (lf : Nat)] 30))) := newBox hr.out.g 30 (stC kd lv ad sp lf gl)
      go_upto_region 10 with (refine wpList_load_at rfl 30 _ rfl b0 (o0 + k * 6) rfl #[.int .i64 kd, .int .u64 (ad : Nat), .int .i64 lv, .int .u64 (sp : Nat), .bool gl, .int .u64 (lf : Nat)] _ HC.out Try.underlying30 rfl (info_stC kd lv ad sp lf gl) ?_)
      generalize wr.alloc (Obj.cells #[.int .i64 kd, .int .u64 (ad : Nat), .int .i64 lv, .int .u64 (sp : Nat), .bool gl, .int .u64 (lf : Nat)] 30) = u1 at HX ⊢
      generalize wr.heap.size = g at HX ⊢
      replace HX : Hid (Grp W [T tb ⟨e, is, sa⟩, T ub ⟨e, is, sb⟩, eRow g 30 (stC kd lv ad sp lf gl)] u1) := HX
      obtain ⟨x0, x1, x2, x3, x4, x5⟩ := st6 (rowAt HX.out 2 rfl).2
      by_cases e0 : kd = 0
      · 
        subst e0
        by_cases hp8 : p < 8
        · have d8 : decide ((8 : Int) < (p : Int) + 1) = false := decide_eq_false (by omega)
          obtain ⟨e', is', hcn, hput⟩ := put_room e is ⟨ad, lv, sp, gl, lf⟩ (by have := hr.out.c; omega)
          have q1 := hput sa
          have q2 := hput sb
          have HP1 : Hid (∀ u, Grp W [T tb ⟨e, is, sa⟩, T ub ⟨e, is, sb⟩, eRow g 30 (stC 0 lv ad sp lf gl)] u → Calls Try.prog 11 #[.pointer (some ⟨tb, 0, none⟩), .agg #[.int .u64 (ad : Nat), .int .i64 lv, .int .u64 (sp : Nat), .bool gl, .int .u64 (lf : Nat)]] u (fun e0 w' => e0 = .returned (.bool (okP ⟨ad, lv, sp, gl, lf⟩)) ∧ Grp W [T tb ⟨e', is', sa⟩, T ub ⟨e, is, sb⟩, eRow g 30 (stC 0 lv ad sp lf gl)] w')) := fun u h => by
            have := putG O.out h 0 rfl hr.out.a ⟨ad, lv, sp, gl, lf⟩ HWF.out
            rw [q1] at this; exact this
          have HP2 : Hid (∀ u, Grp W [T tb ⟨e', is', sa⟩, T ub ⟨e, is, sb⟩, eRow g 30 (stC 0 lv ad sp lf gl)] u → Calls Try.prog 11 #[.pointer (some ⟨ub, 0, none⟩), .agg #[.int .u64 (ad : Nat), .int .i64 lv, .int .u64 (sp : Nat), .bool gl, .int .u64 (lf : Nat)]] u (fun e0 w' => e0 = .returned (.bool (okP ⟨ad, lv, sp, gl, lf⟩)) ∧ Grp W [T tb ⟨e', is', sa⟩, T ub ⟨e', is', sb⟩, eRow g 30 (stC 0 lv ad sp lf gl)] w')) := fun u h => by
            have := putG O.out h 1 rfl hr.out.b ⟨ad, lv, sp, gl, lf⟩ HWF.out
            rw [q2] at this; exact this
          have HOK : Hid (St.Ok ⟨e', is', sa⟩ ∧ St.Ok ⟨e', is', sb⟩ ∧ cnt is' ≤ p + 1 ∧ p + 1 ≤ 8) := ⟨by rw [← q1]; exact putS_ok _ hr.out.a _ HWF.out, by rw [← q2]; exact putS_ok _ hr.out.b _ HWF.out, by have := hr.out.c; omega, by omega⟩
          generalize okP ⟨ad, lv, sp, gl, lf⟩ = ok at HP1 HP2
          have hpp : Hid (((p : Int) + 1) = ((p + 1 : Nat) : Int)) := by show _ = _; omega
          clear hput hcn q1 q2 hp8
          go_upto_region 19 with fail
          obtain ⟨x0, x1, x2, x3, x4, x5⟩ := st6 (rowAt HX.out 2 rfl).2
          go_region_held3 (fun w' => w'.cell? ⟨g, 0, none⟩ = some (.int .i64 0) ∧ w'.cell? ⟨g, 1, none⟩ = some (.int .u64 (ad : Nat)) ∧ w'.cell? ⟨g, 2, none⟩ = some (.int .i64 lv) ∧ w'.cell? ⟨g, 3, none⟩ = some (.int .u64 (sp : Nat)) ∧ w'.cell? ⟨g, 4, none⟩ = some (.bool gl) ∧ w'.cell? ⟨g, 5, none⟩ = some (.int .u64 (lf : Nat)))
            (first | exact st6 (rowAt H6.out 2 rfl).2 | exact st6 (rowAt H5.out 2 rfl).2 | exact st6 (rowAt H4.out 2 rfl).2 | exact st6 (rowAt H3.out 2 rfl).2 | exact st6 (rowAt (HX.out.below (by repeat (first | (with_reducible first | exact Below.refl _ _ | assumption | exact Nat.le_refl _ | refine Below.drew ?_ | refine Below.alloc ?_ ?_ _ | refine Below.setCell ?_ ?_ _ | refine le_alloc ?_ | refine le_set ?_ | refine le_drew ?_ | refine below_step (by assumption) ?_ ?_ | refine le_below (by assumption) ?_) | (dsimp only; omega)))) 2 rfl).2)
            (first
              | (go_at_call 12; refine (entry_c 0 lv ad sp lf gl _).mono ?_; rintro e0 w5 ⟨rfl, hbx⟩; have H5 : Hid (Grp W [T tb ⟨e', is', sa⟩, T ub ⟨e, is, sb⟩, eRow g 30 (stC 0 lv ad sp lf gl)] w5) := H4.out.below (w' := w5) (by repeat (first | (with_reducible first | exact Below.refl _ _ | assumption | exact Nat.le_refl _ | refine Below.drew ?_ | refine Below.alloc ?_ ?_ _ | refine Below.setCell ?_ ?_ _ | refine le_alloc ?_ | refine le_set ?_ | refine le_drew ?_ | refine below_step (by assumption) ?_ ?_ | refine le_below (by assumption) ?_) | (dsimp only; omega))); clear hbx)
              | (go_at_call 12; refine (entry_c 0 lv ad sp lf gl _).mono ?_; rintro e0 w3 ⟨rfl, hbx⟩; have H3 : Hid (Grp W [T tb ⟨e, is, sa⟩, T ub ⟨e, is, sb⟩, eRow g 30 (stC 0 lv ad sp lf gl)] w3) := HX.out.below (w' := w3) (by repeat (first | (with_reducible first | exact Below.refl _ _ | assumption | exact Nat.le_refl _ | refine Below.drew ?_ | refine Below.alloc ?_ ?_ _ | refine Below.setCell ?_ ?_ _ | refine le_alloc ?_ | refine le_set ?_ | refine le_drew ?_ | refine below_step (by assumption) ?_ ?_ | refine le_below (by assumption) ?_) | (dsimp only; omega))); clear hbx)
              | (go_at_call 11; refine (HP2.out _ H5.out).mono ?_; rintro e0 w6 ⟨rfl, h6⟩; have H6 := Lib.hid h6; clear h6)
              | (go_at_call 11; refine (HP1.out _ H3.out).mono ?_; rintro e0 w4 ⟨rfl, h4⟩; have H4 := Lib.hid h4; clear h4))
          go_wp2_with fail
          go_roundg gg
          case measure => omega
          exact ⟨k + 1, p + 1, e', is', by omega, by push_cast; rfl, by rw [hpp.out], HOK.out.2.2.2, HOK.out.1, HOK.out.2.1, HOK.out.2.2.1, H6.out.pick _ id (fun i E h => by
            match i, h with
            | 0, h => exact h
            | 1, h => exact h) (fun i j _ _ h => h)⟩
        · have e8 : p = 8 := by have := hp.out; omega
          subst e8
          go_wp2_with fail
          go_ret
          exact retB_mk rfl HX.out.out

      · have d0 : (kd == 0) = false := by rw [beq_eq_false_iff_ne]; exact e0
        have d00 : decide (kd = 0) = false := decide_eq_false e0
        clear e0
        by_cases e2 : kd = 2
        · subst e2
          clear d0 d00
          obtain ⟨e', is', hcn, hfen⟩ := fence_room e is (lv.tmod 2 != 0) ad (decide (1 < lv)) sp
          have q1 := hfen sa
          have q2 := hfen sb
          have HP1 : Hid (∀ u, Grp W [T tb ⟨e, is, sa⟩, T ub ⟨e, is, sb⟩, eRow g 30 (stC 2 lv ad sp lf gl)] u → Calls Try.prog 16 #[.pointer (some ⟨tb, 0, none⟩), .bool (lv.tmod 2 != 0), .int .u64 (ad : Nat), .bool (decide (1 < lv)), .int .u64 (sp : Nat)] u (fun e0 w' => e0 = .returned (.tuple #[]) ∧ Grp W [T tb ⟨e', is', sa⟩, T ub ⟨e, is, sb⟩, eRow g 30 (stC 2 lv ad sp lf gl)] w')) := fun u h => by
            have := fenceG O.out h 0 rfl hr.out.a (lv.tmod 2 != 0) ad (decide (1 < lv)) sp HWF.out.ad HWF.out.sp
            rw [q1] at this; exact this
          have HP2 : Hid (∀ u, Grp W [T tb ⟨e', is', sa⟩, T ub ⟨e, is, sb⟩, eRow g 30 (stC 2 lv ad sp lf gl)] u → Calls Try.prog 16 #[.pointer (some ⟨ub, 0, none⟩), .bool (lv.tmod 2 != 0), .int .u64 (ad : Nat), .bool (decide (1 < lv)), .int .u64 (sp : Nat)] u (fun e0 w' => e0 = .returned (.tuple #[]) ∧ Grp W [T tb ⟨e', is', sa⟩, T ub ⟨e', is', sb⟩, eRow g 30 (stC 2 lv ad sp lf gl)] w')) := fun u h => by
            have := fenceG O.out h 1 rfl hr.out.b (lv.tmod 2 != 0) ad (decide (1 < lv)) sp HWF.out.ad HWF.out.sp
            rw [q2] at this; exact this
          have HOK : Hid (St.Ok ⟨e', is', sa⟩ ∧ St.Ok ⟨e', is', sb⟩ ∧ cnt is' ≤ p) := ⟨by rw [← q1]; exact fenceS_ok _ hr.out.a _ _ _ _, by rw [← q2]; exact fenceS_ok _ hr.out.b _ _ _ _, by have := hr.out.c; omega⟩
          clear hfen hcn q1 q2
          go_wp2_with (first
            | (go_at_call 16; refine (HP2.out _ H3.out).mono ?_; rintro e0 w4 ⟨rfl, h4⟩; have H4 := Lib.hid h4; clear h4)
            | (go_at_call 16; refine (HP1.out _ HX.out).mono ?_; rintro e0 w3 ⟨rfl, h3⟩; have H3 := Lib.hid h3; clear h3; obtain ⟨y0, y1, y2, y3, y4, y5⟩ := st6 (rowAt H3.out 2 rfl).2))
          go_roundg gg
          case measure => omega
          exact ⟨k + 1, p, e', is', by omega, by push_cast; rfl, rfl, hp.out, HOK.out.1, HOK.out.2.1, HOK.out.2.2, H4.out.pick _ id (fun i E h => by
            match i, h with
            | 0, h => exact h
            | 1, h => exact h) (fun i j _ _ h => h)⟩
        · have d2 : (kd == 2) = false := by rw [beq_eq_false_iff_ne]; exact e2
          have d22 : decide (kd = 2) = false := decide_eq_false e2
          clear e2
          obtain ⟨fa, fl, fs, fg, ff, hF⟩ : ∃ fa fl fs fg ff, findE ⟨e, is, sa⟩ sp ad = ⟨fa, fl, fs, fg, ff⟩ := ⟨_, _, _, _, _, rfl⟩
          have hF2 : findE ⟨e, is, sb⟩ sp ad = ⟨fa, fl, fs, fg, ff⟩ := hF
          obtain ⟨B, hB⟩ : ∃ B, findB ⟨e, is, sa⟩ sp ad = B := ⟨_, rfl⟩
          have hB2 : findB ⟨e, is, sb⟩ sp ad = B := hB
          obtain ⟨m, hm⟩ : ∃ m, (allS ⟨e, is, sa⟩).length = m := ⟨_, rfl⟩
          have hm2 : (allS ⟨e, is, sb⟩).length = m := hm
          have HP1 : Hid (∀ (l : List Th) (u : World), Grp W (T tb ⟨e, is, sa⟩ :: l) u → Calls Try.prog 14 #[.pointer (some ⟨tb, 0, none⟩), .int .u64 (sp : Nat), .int .u64 (ad : Nat)] u (fun e0 w' => e0 = .returned (.tuple #[.agg #[.int .u64 (fa : Nat), .int .i64 fl, .int .u64 (fs : Nat), .bool fg, .int .u64 (ff : Nat)], .bool B]) ∧ Grp W (T tb ⟨e, is, sa⟩ :: l) w')) := fun l u h => by
            have := findG O.out h 0 rfl hr.out.a sp ad HWF.out.sp HWF.out.ad
            rw [hF, hB] at this; exact this
          have HP2 : Hid (∀ (E : Th) (l : List Th) (u : World), Grp W (E :: T ub ⟨e, is, sb⟩ :: l) u → Calls Try.prog 14 #[.pointer (some ⟨ub, 0, none⟩), .int .u64 (sp : Nat), .int .u64 (ad : Nat)] u (fun e0 w' => e0 = .returned (.tuple #[.agg #[.int .u64 (fa : Nat), .int .i64 fl, .int .u64 (fs : Nat), .bool fg, .int .u64 (ff : Nat)], .bool B]) ∧ Grp W (E :: T ub ⟨e, is, sb⟩ :: l) w')) := fun E l u h => by
            have := findG O.out h 1 rfl hr.out.b sp ad HWF.out.sp HWF.out.ad
            rw [hF2, hB2] at this; exact this
          have HA1 : Hid (∀ (l : List Th) (u : World), Grp W (T tb ⟨e, is, sa⟩ :: l) u → Calls Try.prog 20 #[.pointer (some ⟨tb, 0, none⟩)] u (fun e0 w' => ∃ a c, e0 = .returned (.slice a m c) ∧ Grp W (T tb ⟨e, is, sa⟩ :: l) w')) := fun l u h => by
            refine (allG O.out h 0 rfl hr.out.a).mono ?_
            rintro e0 w' ⟨v, rfl, h1, h2, _⟩
            obtain ⟨a, c, rfl⟩ := h1.slice
            exact ⟨a, c, by rw [hm], h2⟩
          have HA2 : Hid (∀ (E : Th) (l : List Th) (u : World), Grp W (E :: T ub ⟨e, is, sb⟩ :: l) u → Calls Try.prog 20 #[.pointer (some ⟨ub, 0, none⟩)] u (fun e0 w' => ∃ a c, e0 = .returned (.slice a m c) ∧ Grp W (E :: T ub ⟨e, is, sb⟩ :: l) w')) := fun E l u h => by
            refine (allG O.out h 1 rfl hr.out.b).mono ?_
            rintro e0 w' ⟨v, rfl, h1, h2, _⟩
            obtain ⟨a, c, rfl⟩ := h1.slice
            exact ⟨a, c, by rw [hm2], h2⟩
          clear hF hF2 hB hB2 hm hm2
          go_upto_region 12 with (first
            | (go_at_call 14; refine (HP1.out _ _ HX.out).mono ?_; rintro e0 w3 ⟨rfl, h3⟩; have H3 := Lib.hid h3; clear h3; have N3 := Lib.hid (newRow H3.out 33 E0.v (En.v ⟨fa, fl, fs, fg, ff⟩)))
            | (refine wpList_store_rowP (fun wx => Grp W [T tb ⟨e, is, sa⟩, T ub ⟨e, is, sb⟩, eRow g 30 (stC kd lv ad sp lf gl), eRow w3.heap.size 33 (En.v ⟨fa, fl, fs, fg, ff⟩)] wx) rfl 33 _ _ rfl w3.heap.size #[.int .u64 (fa : Nat), .int .i64 fl, .int .u64 (fs : Nat), .bool fg, .int .u64 (ff : Nat)] rfl rfl 33 E0.v (row_new _ _ _) (info_te ⟨fa, fl, fs, fg, ff⟩) rfl (one_en ⟨fa, fl, fs, fg, ff⟩) N3.out ?_; rintro w4 h4; have H4 := Lib.hid h4; clear h4 N3))
          generalize w3.heap.size = g3 at H4 ⊢
          obtain ⟨y0, y1, y2, y3, y4, y5⟩ := st6 (rowAt H4.out 2 rfl).2
          go_upto_region 13 with (first
            | (go_at_call 14; refine (HP2.out _ _ _ H4.out).mono ?_; rintro e0 w5 ⟨rfl, h5⟩; have H5 := Lib.hid h5; clear h5; have N5 := Lib.hid (newRow H5.out 33 E0.v (En.v ⟨fa, fl, fs, fg, ff⟩)))
            | (refine wpList_store_rowP (fun wx => Grp W [T tb ⟨e, is, sa⟩, T ub ⟨e, is, sb⟩, eRow g 30 (stC kd lv ad sp lf gl), eRow g3 33 (En.v ⟨fa, fl, fs, fg, ff⟩), eRow w5.heap.size 33 (En.v ⟨fa, fl, fs, fg, ff⟩)] wx) rfl 33 _ _ rfl w5.heap.size #[.int .u64 (fa : Nat), .int .i64 fl, .int .u64 (fs : Nat), .bool fg, .int .u64 (ff : Nat)] rfl rfl 33 E0.v (row_new _ _ _) (info_te ⟨fa, fl, fs, fg, ff⟩) rfl (one_en ⟨fa, fl, fs, fg, ff⟩) N5.out ?_; rintro w6 h6; have H6 := Lib.hid h6; clear h6 N5))
          generalize w5.heap.size = g5 at H6 ⊢
          clear H3 H4 H5 HX x0 x1 x2 x3 x4 x5 y0 y1 y2 y3 y4 y5
          obtain ⟨y0, y1, y2, y3, y4⟩ := rowx (rowAt H6.out 3 rfl).2
          obtain ⟨z0, z1, z2, z3, z4⟩ := rowx (rowAt H6.out 4 rfl).2
          go_wp2_with (first
            | (go_at_call 20; refine (HA2.out _ _ _ H7.out).mono ?_; rintro e0 w8 ⟨a8, c8, rfl, h8⟩; have H8 := Lib.hid h8; clear h8)
            | (go_at_call 20; refine (HA1.out _ _ H6.out).mono ?_; rintro e0 w7 ⟨a7, c7, rfl, h7⟩; have H7 := Lib.hid h7; clear h7))
          go_roundg gg
          case measure => omega
          exact ⟨k + 1, p, e, is, by omega, by push_cast; rfl, rfl, hp.out, hr.out.a, hr.out.b, hr.out.c, H8.out.pick _ id (fun i E h => by
            match i, h with
            | 0, h => exact h
            | 1, h => exact h) (fun i j _ _ h => h)⟩
end Go.Proofs.Ytdplcdgdndeopaa
