/- TlbKeeps, walked. -/
import Derived.Test.YtdplcdgdndeopaaG5
namespace Go.Proofs.Ytdplcdgdndeopaa
open Go.ChangeShapes Go.WideShapes Go.ChangeAt Go.RowKit Go.Sort
set_option linter.unusedVariables false
set_option linter.unusedSimpArgs false
set_option maxRecDepth 100000 in
set_option maxHeartbeats 400000000 in
theorem keeps_core {T : Nat → St → Th} (O : Hid (TlbOk T)) (W : World) (sd b0 o0 N cap : Nat) (sl : Option Addr) (Xs : Nat → Sx) (ha : Hid (sd < 18446744073709551616)) (hS : Hid (Steps W b0 o0 N Xs)) (hsl : Hid (0 < N → sl = some ⟨b0, o0, none⟩ ∧ b0 < W.heap.size)) (hN : Hid (N < 2932031007403)) :
    Calls Try.prog 4 #[.int .u64 (sd : Nat), .slice sl N cap] W (RetB true W) := by
  go_enter Try.func4, Try.ntmps4
  go_upto_region 3 with (go_at_call 8; refine (fixed_c O.out _).mono ?_; rintro e w1 ⟨rfl, hb1⟩; have H1 := Lib.hid (grp_nil hb1); clear hb1)
  go_upto_region 4 with (go_at_call 9; refine (newG O.out H1.out sd ha.out).mono ?_; rintro e w2 ⟨tb, rfl, h⟩; have H2 : Hid (Grp W [T tb (S0 sd)] w2) := h; clear h H1)
  have H0 : Hid (Grp W [T tb (S0 sd), eS0 36 (.slice (some ⟨w2.heap.size, 0, none⟩) 0 0) []] (w2.alloc (Obj.cells #[] 36))) := newS0 H2.out ((Below.refl _ _).alloc (Nat.le_refl _) _) (own_built 36 w2 w2.heap.size 0 #[] [] (Nat.le_refl _) rfl (by decide) rfl) (Nat.le_refl _)
  go_upto_block 0 with fail
  generalize w2.alloc (Obj.cells #[] 36) = w3 at H0 ⊢
  generalize w2.heap.size = g0 at H0 ⊢
  clear H2
  go_wp2_with fail
  go_loopg [6, 7] N (fun gg pv iv wr => ∃ (k : Nat) (X : St) (L : List En) (pa : Option Addr) (np pc : Nat), k + gg = N ∧ iv = .int .i64 k ∧ pv = .slice pa np pc ∧ Hid (L.length = np) ∧ Hid (Ki X L k) ∧ Hid (Grp W [T tb X, eS0 36 (.slice pa np pc) L] wr))
  case atStart => exact ⟨0, S0 sd, [], some ⟨g0, 0, none⟩, 0, 0, by omega, rfl, rfl, rfl, Ki.start sd ha.out, H0.out⟩
  case round =>
    obtain ⟨k, X, L, pa, np, pc, hk, rfl, rfl, hnp, hK, hr⟩ := hrel
    clear H0
    cases gk with
    | zero =>
      obtain rfl : k = N := by omega
      go_wp2_with fail
      go_ret
      exact retB_mk rfl hr.out.out
    | succ gg =>
      have hlt : (k : Int) < N := by omega
      have hkN : k < N := by omega
      obtain ⟨rfl, hbl⟩ := hsl.out (by omega)
      have kk1 : IntKind.i64.wrap ((k : Int) + 1) = (k : Int) + 1 := by have := hN.out; exact IntWalk.i64_in _ (by omega)
      obtain ⟨kd, ad, sp, lf, lv, gl, hx⟩ : ∃ kd ad sp lf lv gl, Xs k = ⟨kd, ⟨ad, lv, sp, gl, lf⟩⟩ := ⟨_, _, _, _, _, _, rfl⟩
      obtain ⟨hc, hwf⟩ := steps_at hS.out hbl hr.out.out hkN hx
      have HC := Lib.hid hc
      have HWF := Lib.hid hwf
      have HKN : Hid (k < 2932031007402) := by have := hN.out; show _ < _; omega
      clear hc hwf hx hkN hbl
      have HX : Hid (Grp W [T tb X, eS0 36 (.slice pa np pc) L, eRow wr.heap.size 30 (stC kd lv ad sp lf gl)] (wr.alloc (Obj.cells #[.int .i64 kd, .int .u64 (ad : Nat), .int .i64 lv, .int .u64 (sp : Nat), .bool gl, .int .u64 (lf : Nat)] 30))) := newBox hr.out 30 (stC kd lv ad sp lf gl)
      go_upto_region 9 with (refine wpList_load_at rfl 30 _ rfl b0 (o0 + k * 6) rfl #[.int .i64 kd, .int .u64 (ad : Nat), .int .i64 lv, .int .u64 (sp : Nat), .bool gl, .int .u64 (lf : Nat)] _ HC.out Try.underlying30 rfl (info_stC kd lv ad sp lf gl) ?_)
      generalize wr.alloc (Obj.cells #[.int .i64 kd, .int .u64 (ad : Nat), .int .i64 lv, .int .u64 (sp : Nat), .bool gl, .int .u64 (lf : Nat)] 30) = u1 at HX ⊢
      generalize wr.heap.size = g at HX ⊢
      clear hr HC
      obtain ⟨x0, x1, x2, x3, x4, x5⟩ := st6 (rowAt HX.out 2 rfl).2
      go_upto_if 44 with fail
      go_cut [6, 9, 10, 11, 12, 13, 14, 15, 16] (fun pv _ _ _ _ _ _ _ _ wc => ∃ (X' : St) (L' : List En) (pa' : Option Addr) (np' pc' : Nat), pv = .slice pa' np' pc' ∧ Hid (L'.length = np') ∧ Hid (Ki X' L' (k + 1)) ∧ Hid (Grp W [T tb X', eS0 36 (.slice pa' np' pc') L', eRow g 30 (stC kd lv ad sp lf gl)] wc))
      case first =>
        by_cases e0 : kd = 0
        · 
          subst e0
          have HT : Hid (∀ E1 E2 l u, Grp W (T tb X :: E1 :: E2 :: l) u → Calls Try.prog 11 #[.pointer (some ⟨tb, 0, none⟩), .agg #[.int .u64 (ad : Nat), .int .i64 lv, .int .u64 (sp : Nat), .bool gl, .int .u64 (lf : Nat)]] u (fun e0 w' => e0 = .returned (.bool (okP ⟨ad, lv, sp, gl, lf⟩)) ∧ Grp W (T tb (putS X ⟨ad, lv, sp, gl, lf⟩) :: E1 :: E2 :: l) w')) := fun E1 E2 l u h => putG O.out h 0 rfl hK.out.ok ⟨ad, lv, sp, gl, lf⟩ HWF.out
          have HE : Hid (∀ u, Calls Try.prog 12 #[.agg #[.int .i64 0, .int .u64 (ad : Nat), .int .i64 lv, .int .u64 (sp : Nat), .bool gl, .int .u64 (lf : Nat)]] u (fun e0 w' => e0 = .returned (.agg #[.int .u64 (ad : Nat), .int .i64 lv, .int .u64 (sp : Nat), .bool gl, .int .u64 (lf : Nat)]) ∧ Below u.heap.size u w')) := fun u => entry_c 0 lv ad sp lf gl u
          cases ho : okP ⟨ad, lv, sp, gl, lf⟩ with
          | false =>
            as_aux_lemma =>
              have hps : putS X ⟨ad, lv, sp, gl, lf⟩ = X := by unfold putS; rw [if_neg (by rw [ho]; decide)]
              rw [ho, hps] at HT
              clear hps ho
              go_upto_region 11 with (first
                | (go_at_call 12; refine (HE.out _).mono ?_; rintro e0 w3 ⟨rfl, hbx⟩; have H3 := Lib.hid (HX.out.below hbx); clear hbx; have N3 := Lib.hid (newRow H3.out 36 E0.v (En.v ⟨ad, lv, sp, gl, lf⟩)))
                | (refine wpList_store_rowP (fun wx => Grp W [T tb X, eS0 36 (.slice pa np pc) L, eRow g 30 (stC 0 lv ad sp lf gl), eRow w3.heap.size 36 (En.v ⟨ad, lv, sp, gl, lf⟩)] wx) rfl 36 _ _ rfl w3.heap.size #[.int .u64 (ad : Nat), .int .i64 lv, .int .u64 (sp : Nat), .bool gl, .int .u64 (lf : Nat)] rfl rfl 36 E0.v (row_new _ _ _) (info_en ⟨ad, lv, sp, gl, lf⟩) rfl (one_en ⟨ad, lv, sp, gl, lf⟩) N3.out ?_; rintro w4 h4; have H4 := Lib.hid h4; clear h4 N3 H3))
              generalize w3.heap.size = ge at H4 ⊢
              obtain ⟨y0, y1, y2, y3, y4, y5⟩ := st6 (rowAt H4.out 2 rfl).2
              go_wp2_with (first
                | (go_at_call 12; refine (HE.out _).mono ?_; rintro e0 w5 ⟨rfl, hbx⟩; have H5 := Lib.hid (H4.out.below hbx); clear hbx)
                | (go_at_call 11; refine (HT.out _ _ _ _ H5.out).mono ?_; rintro e0 w6 ⟨rfl, h6⟩; have H6 := Lib.hid h6; clear h6))
              go_roundg gg
              case measure => omega
              exact ⟨k + 1, X, L, pa, np, pc, by omega, by push_cast; rfl, rfl, hnp.out, hK.out.more, H6.out.pick _ id (fun i E h => by
                match i, h with
                | 0, h => exact h
                | 1, h => exact h) (fun i j _ _ h => h)⟩
          | true =>
            have hK2 := Lib.hid (hK.out.put ⟨ad, lv, sp, gl, lf⟩ HWF.out ho)
            have hFB : findB (putS X ⟨ad, lv, sp, gl, lf⟩) sp ad = true := put_found hK.out ⟨ad, lv, sp, gl, lf⟩ ho
            obtain ⟨hF1, hF2, hF3⟩ := find_facts hK2.out sp ad hFB
            have hFO := findE_ok hK2.out.ok sp ad
            rw [ho] at HT
            clear ho
            generalize putS X ⟨ad, lv, sp, gl, lf⟩ = X2 at HT hK2 hFB hF1 hF2 hF3 hFO
            obtain ⟨pr, hpr⟩ : ∃ pr : En → Bool, pr = fun y => !sameB y ⟨ad, lv, sp, gl, lf⟩ := ⟨_, rfl⟩
            rw [← hpr] at hK2 hF1
            have HPR := Lib.hid hpr
            obtain ⟨fa, fl, fs, fg, ff, hF⟩ : ∃ fa fl fs fg ff, findE X2 sp ad = ⟨fa, fl, fs, fg, ff⟩ := ⟨_, _, _, _, _, rfl⟩
            rw [hF] at hF2 hF3 hFO
            have HF : Hid (∀ l u, Grp W (T tb X2 :: l) u → Calls Try.prog 14 #[.pointer (some ⟨tb, 0, none⟩), .int .u64 (sp : Nat), .int .u64 (ad : Nat)] u (fun e0 w' => e0 = .returned (.tuple #[.agg #[.int .u64 (fa : Nat), .int .i64 fl, .int .u64 (fs : Nat), .bool fg, .int .u64 (ff : Nat)], .bool true]) ∧ Grp W (T tb X2 :: l) w')) := fun l u h => by
              have := findG O.out h 0 rfl hK2.out.ok sp ad HWF.out.sp HWF.out.ad
              rw [hF, hFB] at this; exact this
            have HH : Hid (∀ u, Calls Try.prog 23 #[.agg #[.int .u64 (fa : Nat), .int .i64 fl, .int .u64 (fs : Nat), .bool fg, .int .u64 (ff : Nat)], .int .u64 (ad : Nat)] u (RetB true u)) := fun u => by
              have := has_c ⟨fa, fl, fs, fg, ff⟩ hFO.lv hFO.wf.ad ad HWF.out.ad u
              rw [hF2] at this; exact this
            have hM : (fg || fs == sp) = true := hF3
            have HM := Lib.hid hM
            clear hFB hF1 hF2 hF3 hFO hF hM hpr
            go_upto_region 11 with (first
              | (go_at_call 12; refine (HE.out _).mono ?_; rintro e0 w3 ⟨rfl, hbx⟩; have H3 := Lib.hid (HX.out.below hbx); clear hbx; have N3 := Lib.hid (newRow H3.out 36 E0.v (En.v ⟨ad, lv, sp, gl, lf⟩)))
              | (refine wpList_store_rowP (fun wx => Grp W [T tb X, eS0 36 (.slice pa np pc) L, eRow g 30 (stC 0 lv ad sp lf gl), eRow w3.heap.size 36 (En.v ⟨ad, lv, sp, gl, lf⟩)] wx) rfl 36 _ _ rfl w3.heap.size #[.int .u64 (ad : Nat), .int .i64 lv, .int .u64 (sp : Nat), .bool gl, .int .u64 (lf : Nat)] rfl rfl 36 E0.v (row_new _ _ _) (info_en ⟨ad, lv, sp, gl, lf⟩) rfl (one_en ⟨ad, lv, sp, gl, lf⟩) N3.out ?_; rintro w4 h4; have H4 := Lib.hid h4; clear h4 N3 H3))
            generalize w3.heap.size = ge at H4 ⊢
            obtain ⟨y0, y1, y2, y3, y4, y5⟩ := st6 (rowAt H4.out 2 rfl).2
            go_upto_region 13 with (first
              | (go_at_call 12; refine (HE.out _).mono ?_; rintro e0 w5 ⟨rfl, hbx⟩; have H5 := Lib.hid (H4.out.below hbx); clear hbx)
              | (go_at_call 11; refine (HT.out _ _ _ _ H5.out).mono ?_; rintro e0 w6 ⟨rfl, h6⟩; have H6 : Hid (Grp W [T tb X2, eS0 36 (.slice pa np pc) L, eRow g 30 (stC 0 lv ad sp lf gl), eRow ge 36 (En.v ⟨ad, lv, sp, gl, lf⟩)] w6) := h6; clear h6))
            clear H4 H5 HT HE y0 y1 y2 y3 y4 y5
            have H7 : Hid (Grp W [T tb X2, eS0 36 (.slice pa np pc) L, eRow g 30 (stC 0 lv ad sp lf gl), eRow ge 36 (En.v ⟨ad, lv, sp, gl, lf⟩), eS0 36 (.slice (some ⟨w6.heap.size, 0, none⟩) 0 0) []] (w6.alloc (Obj.cells #[] 36))) := newS0 H6.out ((Below.refl _ _).alloc (Nat.le_refl _) _) (own_built 36 w6 w6.heap.size 0 #[] [] (Nat.le_refl _) rfl (by decide) rfl) (Nat.le_refl _)
            go_upto_block 2 with fail
            generalize w6.alloc (Obj.cells #[] 36) = w7 at H7 ⊢
            generalize w6.heap.size = gl0 at H7 ⊢
            clear H6 HX x0 x1 x2 x3 x4 x5
            go_wp2_with fail
            go_loopg [11, 12] np (fun g2 fv jv wr => ∃ (j : Nat) (LF : List En) (la : Option Addr) (nl lc : Nat), j + g2 = np ∧ jv = .int .i64 j ∧ fv = .slice la nl lc ∧ Hid (LF = (L.take j).filter pr) ∧ Hid (LF.length = nl) ∧ Hid (Grp W [T tb X2, eS0 36 (.slice pa np pc) L, eRow g 30 (stC 0 lv ad sp lf gl), eRow ge 36 (En.v ⟨ad, lv, sp, gl, lf⟩), eS0 36 (.slice la nl lc) LF] wr))
            case atStart => exact ⟨0, [], some ⟨gl0, 0, none⟩, 0, 0, by omega, rfl, rfl, rfl, rfl, H7.out⟩
            case round =>
              obtain ⟨j, LF, la, nl, lc, hj, rfl, rfl, hLF, hnl, hG⟩ := hrel
              clear H7
              cases gk with
              | zero =>
                as_aux_lemma =>
                  obtain rfl : j = np := by omega
                  have hLF2 : LF = L.filter pr := by rw [hLF.out, ← hnp.out, List.take_length]
                  rw [← hLF2] at hK2
                  have HB40 : Hid ((LF.length + 1) * 40 ≤ 140737488355328 ∧ LF.length ≤ 4611686018427) := by
                    have h1 : LF.length ≤ L.length := by rw [hLF2]; exact List.length_filter_le _ _
                    have h2 := hK.out.len
                    have h3 := HKN.out
                    exact ⟨by omega, by omega⟩
                  clear hLF2
                  obtain ⟨z0, z1, z2, z3, z4⟩ := rowxq (rowAt hG.out 3 rfl).2
                  have HBA : Hid (Below wr.heap.size wr (wr.alloc (Obj.cells #[.int .u64 (ad : Nat), .int .i64 lv, .int .u64 (sp : Nat), .bool gl, .int .u64 (lf : Nat)] 36))) := by show Below _ _ _; exact (Below.refl _ _).alloc (Nat.le_refl _) _
                  have HGA := Lib.hid (hG.out.below HBA.out)
                  go_upto_region 21 with (refine append_e infoR rfl _ _ rfl 0 (.slice la nl lc) LF rfl (s0At HGA.out 4 rfl) HB40.out.2 wr.heap.size (.slice (some ⟨wr.heap.size, 0, none⟩) 1 1) [⟨ad, lv, sp, gl, lf⟩] rfl (own_built _ wr wr.heap.size 1 _ [⟨ad, lv, sp, gl, lf⟩] (Nat.le_refl _) rfl (by decide) rfl) ⟨Nat.one_pos, (by decide : 1 ≤ 500)⟩ (Nat.zero_le _) HB40.out.1 ?_; intro v2 w8 q1 q2 q3; have H8 := Lib.hid (growS0 HGA.out 4 rfl q1 q2 q3); obtain ⟨pa2, n2, pc2, rfl, hn2⟩ := q1.slice3; clear q1 q2 q3)
                  have H9 : Hid (Grp W [T tb X2, eS0 36 (.slice pa2 n2 pc2) (LF ++ [(⟨ad, lv, sp, gl, lf⟩ : En)]), eRow g 30 (stC 0 lv ad sp lf gl)] w8) := H8.out.pick _ (fun i => if i = 1 then 4 else i) (fun i E h => by
                    match i, h with
                    | 0, h => exact h
                    | 1, h => exact h
                    | 2, h => exact h) (fun i j hi hj h => by
                    have hi : i < 3 := hi
                    have hj : j < 3 := hj
                    show (if i = 1 then 4 else i) ≠ (if j = 1 then 4 else j)
                    split <;> split <;> omega)
                  clear H8 HGA hG z0 z1 z2 z3 z4 HBA
                  obtain ⟨y0, y1, y2, y3, y4, y5⟩ := st6 (rowAt H9.out 2 rfl).2
                  go_upto_region 22 with (first
                    | (go_at_call 14; refine (HF.out _ _ H9.out).mono ?_; rintro e0 w10 ⟨rfl, h10⟩; have H10 := Lib.hid h10; clear h10; have N10 := Lib.hid (newRow H10.out 33 E0.v (En.v ⟨fa, fl, fs, fg, ff⟩)))
                    | (refine wpList_store_rowP (fun wx => Grp W [T tb X2, eS0 36 (.slice pa2 n2 pc2) (LF ++ [(⟨ad, lv, sp, gl, lf⟩ : En)]), eRow g 30 (stC 0 lv ad sp lf gl), eRow w10.heap.size 33 (En.v ⟨fa, fl, fs, fg, ff⟩)] wx) rfl 33 _ _ rfl w10.heap.size #[.int .u64 (fa : Nat), .int .i64 fl, .int .u64 (fs : Nat), .bool fg, .int .u64 (ff : Nat)] rfl rfl 33 E0.v (row_new _ _ _) (info_te ⟨fa, fl, fs, fg, ff⟩) rfl (one_en ⟨fa, fl, fs, fg, ff⟩) N10.out ?_; rintro w11 h11; have H11 := Lib.hid h11; clear h11 N10 H10))
                  generalize w10.heap.size = gf at H11 ⊢
                  clear y0 y1 y2 y3 y4 y5 H9
                  obtain ⟨y0, y1, y2, y3, y4, y5⟩ := st6 (rowAt H11.out 2 rfl).2
                  obtain ⟨z0, z1, z2, z3, z4⟩ := rowx (rowAt H11.out 3 rfl).2
                  go_upto_region 23 with (go_at_call 23; refine (HH.out _).mono ?_; rintro e0 w12 ⟨rfl, hb12⟩; have H12 := Lib.hid (H11.out.below hb12); clear hb12)
                  clear y0 y1 y2 y3 y4 y5 z0 z1 z2 z3 z4 H11
                  obtain ⟨y0, y1, y2, y3, y4, y5⟩ := st6 (rowAt H12.out 2 rfl).2
                  obtain ⟨z0, z1, z2, z3, z4⟩ := rowx (rowAt H12.out 3 rfl).2
                  have e3 := cast_beq fs sp
                  have HM2 := Lib.hid HM.out
                  generalize (fs == sp) = q3 at e3 HM2
                  have n3 : ((fs : Int) != (sp : Int)) = !q3 := by rw [← e3]; rfl
                  clear e3
                  have hfin : Hid (∃ (X' : St) (L' : List En) (pa' : Option Addr) (np' pc' : Nat), (Value.slice pa2 n2 pc2) = .slice pa' np' pc' ∧ Hid (L'.length = np') ∧ Hid (Ki X' L' (k + 1)) ∧ Hid (Grp W [T tb X', eS0 36 (.slice pa' np' pc') L', eRow g 30 (stC 0 lv ad sp lf gl)] w12)) := ⟨X2, _, pa2, n2, pc2, rfl, hn2.out, hK2.out, H12.out.pick _ id (fun i E h => by
                    match i, h with
                    | 0, h => exact h
                    | 1, h => exact h
                    | 2, h => exact h) (fun i j _ _ h => h)⟩
                  cases fg <;> cases q3 <;> first
                    | exact absurd HM2.out (by decide)
                    | (go_wp2_with fail
                       go_meet
                       exact hfin.out)
              | succ g2 =>
                have hjm : j < np := by omega
                have jlt : (j : Int) < np := by omega
                have jj1 : IntKind.i64.wrap ((j : Int) + 1) = (j : Int) + 1 := by have h1 := hnp.out; have h2 := hK.out.len; have h3 := HKN.out; exact IntWalk.i64_in _ (by omega)
                have HB40 : Hid ((LF.length + 1) * 40 ≤ 140737488355328 ∧ LF.length ≤ 4611686018427) := by
                  have h1 := take_filter_len pr L j
                  rw [← hLF.out] at h1
                  have h2 := hK.out.len
                  have h3 := HKN.out
                  exact ⟨by omega, by omega⟩
                obtain ⟨gp, ya, ys, yf, yl, yg, rfl, _, _, hy, y0, y1, y2, y3, y4⟩ := (s0At hG.out 1 rfl).at5 (k := j) (by rw [hnp.out]; exact hjm)
                have HFY := Lib.hid (fun h => take_filter_y pr L j _ hy h)
                have HFN := Lib.hid (fun h => take_filter_n pr L j _ hy h)
                have e1 := cast_beq ya ad
                have e3 := cast_beq ys sp
                have HQ : Hid (pr ⟨ya, yl, ys, yg, yf⟩ = !((ya == ad) && (yl == lv) && (yg == gl) && (gl || (ys == sp)))) := by show _ = _; rw [HPR.out]; rfl
                generalize (ya == ad) = q1 at e1 HQ
                obtain ⟨q2, e2⟩ : ∃ q2, (yl == lv) = q2 := ⟨_, rfl⟩
                rw [e2] at HQ
                generalize (ys == sp) = q3 at e3 HQ
                have n1 : ((ya : Int) != (ad : Int)) = !q1 := by rw [← e1]; rfl
                have n2 : (yl != lv) = !q2 := by rw [← e2]; rfl
                have n3 : ((ys : Int) != (sp : Int)) = !q3 := by rw [← e3]; rfl
                clear e1 e2 e3
                have HU : Hid (Grp W [T tb X2, eS0 36 (.slice (some ⟨gp, 0, none⟩) np pc) L, eRow g 30 (stC 0 lv ad sp lf gl), eRow ge 36 (En.v ⟨ad, lv, sp, gl, lf⟩), eS0 36 (.slice la nl lc) LF] (wr.alloc (Obj.cells #[.int .u64 (ya : Nat), .int .i64 yl, .int .u64 (ys : Nat), .bool yg, .int .u64 (yf : Nat)] 36)) ∧ Row (wr.alloc (Obj.cells #[.int .u64 (ya : Nat), .int .i64 yl, .int .u64 (ys : Nat), .bool yg, .int .u64 (yf : Nat)] 36)) wr.heap.size 36 (En.v ⟨ya, yl, ys, yg, yf⟩)) := ⟨hG.out.below ((Below.refl _ _).alloc (Nat.le_refl _) _), row_new _ _ _⟩
                clear hy
                go_upto_region 18 with fail
                generalize wr.alloc (Obj.cells #[.int .u64 (ya : Nat), .int .i64 yl, .int .u64 (ys : Nat), .bool yg, .int .u64 (yf : Nat)] 36) = u2 at HU ⊢
                generalize wr.heap.size = gy at HU ⊢
                clear y0 y1 y2 y3 y4 hG
                obtain ⟨y0, y1, y2, y3, y4⟩ := rowxq HU.out.2
                obtain ⟨z0, z1, z2, z3, z4⟩ := rowxq (rowAt HU.out.1 3 rfl).2
                obtain ⟨b, hb⟩ : ∃ b, pr ⟨ya, yl, ys, yg, yf⟩ = b := ⟨_, rfl⟩
                rw [hb] at HFY HFN HQ
                clear hb
                go_cut [94] (fun t wx => t = .bool b ∧ wx = u2)
                case first =>
                  as_aux_lemma =>
                    clear HFY HFN HPR
                    cases q1 <;> cases q2 <;> cases yg <;> cases gl <;> cases q3 <;>
                      (go_wp2_with fail
                       go_meet
                       exact ⟨congrArg Value.bool HQ.out.symm, rfl⟩)
                case rest =>
                  obtain ⟨rfl, rfl⟩ := hcut
                  clear y0 y1 y2 y3 y4 z0 z1 z2 z3 z4 HQ n1 n2 n3
                  cases b with
                  | false =>
                    as_aux_lemma =>
                      have F := Lib.hid (HFN.out rfl)
                      clear HFY HFN
                      go_wp2_with fail
                      go_roundg g2
                      case measure => omega
                      exact ⟨j + 1, LF, la, nl, lc, by omega, by push_cast; rfl, rfl, by rw [F.out]; exact hLF.out, hnl.out, HU.out.1⟩
                  | true =>
                    as_aux_lemma =>
                      have F := Lib.hid (HFY.out rfl)
                      clear HFY HFN
                      obtain ⟨y0, y1, y2, y3, y4⟩ := rowxq HU.out.2
                      have HBA : Hid (Below wc.heap.size wc (wc.alloc (Obj.cells #[.int .u64 (ya : Nat), .int .i64 yl, .int .u64 (ys : Nat), .bool yg, .int .u64 (yf : Nat)] 36))) := by show Below _ _ _; exact (Below.refl _ _).alloc (Nat.le_refl _) _
                      have HGA := Lib.hid (HU.out.1.below HBA.out)
                      go_wp2_with (refine append_e infoR rfl _ _ rfl 0 (.slice la nl lc) LF rfl (s0At HGA.out 4 rfl) HB40.out.2 wc.heap.size (.slice (some ⟨wc.heap.size, 0, none⟩) 1 1) [⟨ya, yl, ys, yg, yf⟩] rfl (own_built _ wc wc.heap.size 1 _ [⟨ya, yl, ys, yg, yf⟩] (Nat.le_refl _) rfl (by decide) rfl) ⟨Nat.one_pos, (by decide : 1 ≤ 500)⟩ (Nat.zero_le _) HB40.out.1 ?_; intro v2 w8 q1 q2 q3; have H8 := Lib.hid (growS0 HGA.out 4 rfl q1 q2 q3); obtain ⟨pa2, n2, pc2, rfl, hn2⟩ := q1.slice3; clear q1 q2 q3)
                      go_roundg g2
                      case measure => omega
                      exact ⟨j + 1, LF ++ [(⟨ya, yl, ys, yg, yf⟩ : En)], pa2, n2, pc2, by omega, by push_cast; rfl, rfl, by show _ = _; rw [F.out, hLF.out], hn2.out, H8.out⟩
        · 
          have d0 : (kd == 0) = false := by rw [beq_eq_false_iff_ne]; exact e0
          have d00 : decide (kd = 0) = false := decide_eq_false e0
          clear e0
          go_wp2_with fail
          go_meet
          exact ⟨X, L, pa, np, pc, rfl, hnp.out, hK.out.more, HX.out⟩
      case rest =>
        clear hnp hK HX x0 x1 x2 x3 x4 x5 L X pa np pc
        obtain ⟨X, L, pa, np, pc, rfl, hnp, hK, HX⟩ := hcut
        obtain ⟨x0, x1, x2, x3, x4, x5⟩ := st6 (rowAt HX.out 2 rfl).2
        go_upto_if 136 with fail
        go_cut [6, 17, 18, 19, 20] (fun pv _ _ _ _ wc => ∃ (X' : St) (L' : List En) (pa' : Option Addr) (np' pc' : Nat), pv = .slice pa' np' pc' ∧ Hid (L'.length = np') ∧ Hid (Ki X' L' (k + 1)) ∧ Hid (Grp W [T tb X', eS0 36 (.slice pa' np' pc') L', eRow g 30 (stC kd lv ad sp lf gl)] wc))
        case first =>
          by_cases e2 : kd = 2
          · 
            subst e2
            have HP1 : Hid (∀ u, Grp W [T tb X, eS0 36 (.slice pa np pc) L, eRow g 30 (stC 2 lv ad sp lf gl)] u → Calls Try.prog 16 #[.pointer (some ⟨tb, 0, none⟩), .bool (lv.tmod 2 != 0), .int .u64 (ad : Nat), .bool (decide (1 < lv)), .int .u64 (sp : Nat)] u (fun e0 w' => e0 = .returned (.tuple #[]) ∧ Grp W [T tb (fenceS X (lv.tmod 2 != 0) ad (decide (1 < lv)) sp), eS0 36 (.slice pa np pc) L, eRow g 30 (stC 2 lv ad sp lf gl)] w')) := fun u h => fenceG O.out h 0 rfl hK.out.ok (lv.tmod 2 != 0) ad (decide (1 < lv)) sp HWF.out.ad HWF.out.sp
            have hK2 := Lib.hid (hK.out.fence (lv.tmod 2 != 0) ad (decide (1 < lv)) sp)
            generalize fenceS X (lv.tmod 2 != 0) ad (decide (1 < lv)) sp = X2 at HP1 hK2
            obtain ⟨pr, hpr⟩ : ∃ pr : En → Bool, pr = fun y => !goesB y (lv.tmod 2 != 0) ad (decide (1 < lv)) sp := ⟨_, rfl⟩
            rw [← hpr] at hK2
            have HPR := Lib.hid hpr
            clear hpr
            go_upto_region 27 with (go_at_call 16; refine (HP1.out _ HX.out).mono ?_; rintro e0 w6 ⟨rfl, h6⟩; have H6 := Lib.hid h6; clear h6)
            generalize (lv.tmod 2 != 0) = bA0
            generalize decide (1 < lv) = bS0
            have H7 : Hid (Grp W [T tb X2, eS0 36 (.slice pa np pc) L, eRow g 30 (stC 2 lv ad sp lf gl), eS0 36 (.slice (some ⟨w6.heap.size, 0, none⟩) 0 0) []] (w6.alloc (Obj.cells #[] 36))) := newS0 H6.out ((Below.refl _ _).alloc (Nat.le_refl _) _) (own_built 36 w6 w6.heap.size 0 #[] [] (Nat.le_refl _) rfl (by decide) rfl) (Nat.le_refl _)
            go_upto_block 4 with fail
            generalize w6.alloc (Obj.cells #[] 36) = w7 at H7 ⊢
            generalize w6.heap.size = gl0 at H7 ⊢
            clear H6 HX x0 x1 x2 x3 x4 x5 HP1
            go_wp2_with fail
            go_loopg [17, 18] np (fun g2 fv jv wr => ∃ (j : Nat) (LF : List En) (la : Option Addr) (nl lc : Nat), j + g2 = np ∧ jv = .int .i64 j ∧ fv = .slice la nl lc ∧ Hid (LF = (L.take j).filter pr) ∧ Hid (LF.length = nl) ∧ Hid (Grp W [T tb X2, eS0 36 (.slice pa np pc) L, eRow g 30 (stC 2 lv ad sp lf gl), eS0 36 (.slice la nl lc) LF] wr))
            case atStart => exact ⟨0, [], some ⟨gl0, 0, none⟩, 0, 0, by omega, rfl, rfl, rfl, rfl, H7.out⟩
            case round =>
              obtain ⟨j, LF, la, nl, lc, hj, rfl, rfl, hLF, hnl, hG⟩ := hrel
              clear H7
              cases gk with
              | zero =>
                as_aux_lemma =>
                  obtain rfl : j = np := by omega
                  have hLF2 : LF = L.filter pr := by rw [hLF.out, ← hnp.out, List.take_length]
                  rw [← hLF2] at hK2
                  clear hLF2
                  go_wp2_with fail
                  go_meet
                  exact ⟨X2, LF, la, nl, lc, rfl, hnl.out, hK2.out, hG.out.pick _ (fun i => if i = 1 then 3 else i) (fun i E h => by
                    match i, h with
                    | 0, h => exact h
                    | 1, h => exact h
                    | 2, h => exact h) (fun i j hi hj h => by
                    have hi : i < 3 := hi
                    have hj : j < 3 := hj
                    show (if i = 1 then 3 else i) ≠ (if j = 1 then 3 else j)
                    split <;> split <;> omega)⟩
              | succ g2 =>
                have hjm : j < np := by omega
                have jlt : (j : Int) < np := by omega
                have jj1 : IntKind.i64.wrap ((j : Int) + 1) = (j : Int) + 1 := by have h1 := hnp.out; have h2 := hK.out.len; have h3 := HKN.out; exact IntWalk.i64_in _ (by omega)
                have HB40 : Hid ((LF.length + 1) * 40 ≤ 140737488355328 ∧ LF.length ≤ 4611686018427) := by
                  have h1 := take_filter_len pr L j
                  rw [← hLF.out] at h1
                  have h2 := hK.out.len
                  have h3 := HKN.out
                  exact ⟨by omega, by omega⟩
                obtain ⟨gp, ya, ys, yf, yl, yg, rfl, _, _, hy, y0, y1, y2, y3, y4⟩ := (s0At hG.out 1 rfl).at5 (k := j) (by rw [hnp.out]; exact hjm)
                have hyO := hK.out.pok _ (List.mem_of_getElem? hy)
                have HFY := Lib.hid (fun h => take_filter_y pr L j _ hy h)
                have HFN := Lib.hid (fun h => take_filter_n pr L j _ hy h)
                have e3 := cast_beq ys sp
                have HH : Hid (∀ u, Calls Try.prog 23 #[.agg #[.int .u64 (ya : Nat), .int .i64 yl, .int .u64 (ys : Nat), .bool yg, .int .u64 (yf : Nat)], .int .u64 (ad : Nat)] u (RetB (hasB ⟨ya, yl, ys, yg, yf⟩ ad) u)) := fun u => has_c ⟨ya, yl, ys, yg, yf⟩ hyO.lv hyO.wf.ad ad HWF.out.ad u
                have HQ : Hid (pr ⟨ya, yl, ys, yg, yf⟩ = !((!(lv.tmod 2 != 0) || hasB ⟨ya, yl, ys, yg, yf⟩ ad) && (!(decide (1 < lv)) || (!yg && (ys == sp))))) := by show _ = _; rw [HPR.out]; rfl
                generalize hasB ⟨ya, yl, ys, yg, yf⟩ ad = hv at HH HQ
                obtain ⟨bA, nA⟩ : ∃ bA, (lv.tmod 2 != 0) = bA := ⟨_, rfl⟩
                obtain ⟨bS, nS⟩ : ∃ bS, decide (1 < lv) = bS := ⟨_, rfl⟩
                rw [nA, nS] at HQ
                generalize (ys == sp) = q3 at e3 HQ
                have n3 : ((ys : Int) != (sp : Int)) = !q3 := by rw [← e3]; rfl
                clear e3 hy hyO
                have HU : Hid (Grp W [T tb X2, eS0 36 (.slice (some ⟨gp, 0, none⟩) np pc) L, eRow g 30 (stC 2 lv ad sp lf gl), eS0 36 (.slice la nl lc) LF] (wr.alloc (Obj.cells #[.int .u64 (ya : Nat), .int .i64 yl, .int .u64 (ys : Nat), .bool yg, .int .u64 (yf : Nat)] 36)) ∧ Row (wr.alloc (Obj.cells #[.int .u64 (ya : Nat), .int .i64 yl, .int .u64 (ys : Nat), .bool yg, .int .u64 (yf : Nat)] 36)) wr.heap.size 36 (En.v ⟨ya, yl, ys, yg, yf⟩) ∧ wr.heap.size < (wr.alloc (Obj.cells #[.int .u64 (ya : Nat), .int .i64 yl, .int .u64 (ys : Nat), .bool yg, .int .u64 (yf : Nat)] 36)).heap.size) := ⟨hG.out.below ((Below.refl _ _).alloc (Nat.le_refl _) _), row_new _ _ _, by rw [sz_alloc]; exact Nat.lt_succ_self _⟩
                go_upto_region 32 with fail
                generalize wr.alloc (Obj.cells #[.int .u64 (ya : Nat), .int .i64 yl, .int .u64 (ys : Nat), .bool yg, .int .u64 (yf : Nat)] 36) = u2 at HU ⊢
                generalize wr.heap.size = gy at HU ⊢
                clear y0 y1 y2 y3 y4 hG
                obtain ⟨y0, y1, y2, y3, y4⟩ := rowxq HU.out.2.1
                obtain ⟨z0, z1, z2, z3, z4, z5⟩ := st6 (rowAt HU.out.1 2 rfl).2
                go_upto_region 33 with (go_at_call 23; refine (HH.out _).mono ?_; rintro e0 w5 ⟨rfl, hb5⟩; have HV := Lib.hid (HU.out.1.below hb5); have HRY := Lib.hid (HU.out.2.1.below hb5 HU.out.2.2); clear hb5)
                clear y0 y1 y2 y3 y4 z0 z1 z2 z3 z4 z5 HU HH
                obtain ⟨y0, y1, y2, y3, y4⟩ := rowxq HRY.out
                obtain ⟨z0, z1, z2, z3, z4, z5⟩ := st6 (rowAt HV.out 2 rfl).2
                obtain ⟨b, hb⟩ : ∃ b, pr ⟨ya, yl, ys, yg, yf⟩ = b := ⟨_, rfl⟩
                rw [hb] at HFY HFN HQ
                clear hb
                go_cut [188] (fun t wx => t = .bool b ∧ wx = w5)
                case first =>
                  as_aux_lemma =>
                    clear HFY HFN HPR
                    cases bA <;> cases bS <;> cases hv <;> cases yg <;> cases q3 <;>
                      (go_wp2_with fail
                       go_meet
                       exact ⟨congrArg Value.bool HQ.out.symm, rfl⟩)
                case rest =>
                  obtain ⟨rfl, rfl⟩ := hcut
                  clear y0 y1 y2 y3 y4 z0 z1 z2 z3 z4 z5 HQ n3 nA nS
                  cases b with
                  | false =>
                    as_aux_lemma =>
                      have F := Lib.hid (HFN.out rfl)
                      clear HFY HFN
                      go_wp2_with fail
                      go_roundg g2
                      case measure => omega
                      exact ⟨j + 1, LF, la, nl, lc, by omega, by push_cast; rfl, rfl, by show _ = _; rw [F.out]; exact hLF.out, hnl.out, HV.out⟩
                  | true =>
                    as_aux_lemma =>
                      have F := Lib.hid (HFY.out rfl)
                      clear HFY HFN
                      obtain ⟨y0, y1, y2, y3, y4⟩ := rowxq HRY.out
                      have HBA : Hid (Below wc.heap.size wc (wc.alloc (Obj.cells #[.int .u64 (ya : Nat), .int .i64 yl, .int .u64 (ys : Nat), .bool yg, .int .u64 (yf : Nat)] 36))) := by show Below _ _ _; exact (Below.refl _ _).alloc (Nat.le_refl _) _
                      have HGA := Lib.hid (HV.out.below HBA.out)
                      go_wp2_with (refine append_e infoR rfl _ _ rfl 0 (.slice la nl lc) LF rfl (s0At HGA.out 3 rfl) HB40.out.2 wc.heap.size (.slice (some ⟨wc.heap.size, 0, none⟩) 1 1) [⟨ya, yl, ys, yg, yf⟩] rfl (own_built _ wc wc.heap.size 1 _ [⟨ya, yl, ys, yg, yf⟩] (Nat.le_refl _) rfl (by decide) rfl) ⟨Nat.one_pos, (by decide : 1 ≤ 500)⟩ (Nat.zero_le _) HB40.out.1 ?_; intro v2 w8 q1 q2 q3; have H8 := Lib.hid (growS0 HGA.out 3 rfl q1 q2 q3); obtain ⟨pa2, n2, pc2, rfl, hn2⟩ := q1.slice3; clear q1 q2 q3)
                      go_roundg g2
                      case measure => omega
                      exact ⟨j + 1, LF ++ [(⟨ya, yl, ys, yg, yf⟩ : En)], pa2, n2, pc2, by omega, by push_cast; rfl, rfl, by show _ = _; rw [F.out, hLF.out], hn2.out, H8.out⟩
          · have d0 : (kd == 2) = false := by rw [beq_eq_false_iff_ne]; exact e2
            have d00 : decide (kd = 2) = false := decide_eq_false e2
            clear e2
            go_wp2_with fail
            go_meet
            exact ⟨X, L, pa, np, pc, rfl, hnp.out, hK.out, HX.out⟩
        case rest =>
          clear hnp hK HX x0 x1 x2 x3 x4 x5 L X pa np pc
          obtain ⟨X, L, pa, np, pc, rfl, hnp, hK, HX⟩ := hcut
          obtain ⟨x0, x1, x2, x3, x4, x5⟩ := st6 (rowAt HX.out 2 rfl).2
          obtain ⟨fa, fl, fs, fg, ff, hF⟩ : ∃ fa fl fs fg ff, findE X sp ad = ⟨fa, fl, fs, fg, ff⟩ := ⟨_, _, _, _, _, rfl⟩
          have hff := find_facts hK.out sp ad
          have hFO := findE_ok hK.out.ok sp ad
          rw [hF] at hff hFO
          have HF : Hid (∀ u, Grp W [T tb X, eS0 36 (.slice pa np pc) L, eRow g 30 (stC kd lv ad sp lf gl)] u → Calls Try.prog 14 #[.pointer (some ⟨tb, 0, none⟩), .int .u64 (sp : Nat), .int .u64 (ad : Nat)] u (fun e0 w' => e0 = .returned (.tuple #[.agg #[.int .u64 (fa : Nat), .int .i64 fl, .int .u64 (fs : Nat), .bool fg, .int .u64 (ff : Nat)], .bool (findB X sp ad)]) ∧ Grp W [T tb X, eS0 36 (.slice pa np pc) L, eRow g 30 (stC kd lv ad sp lf gl)] w')) := fun u h => by
            have := findG O.out h 0 rfl hK.out.ok sp ad HWF.out.sp HWF.out.ad
            rw [hF] at this; exact this
          have HH : Hid (∀ u, Calls Try.prog 23 #[.agg #[.int .u64 (fa : Nat), .int .i64 fl, .int .u64 (fs : Nat), .bool fg, .int .u64 (ff : Nat)], .int .u64 (ad : Nat)] u (RetB (hasB ⟨fa, fl, fs, fg, ff⟩ ad) u)) := fun u => has_c ⟨fa, fl, fs, fg, ff⟩ hFO.lv hFO.wf.ad ad HWF.out.ad u
          have HM : Hid (findB X sp ad = true → ⟨fa, fl, fs, fg, ff⟩ ∈ L ∧ hasB ⟨fa, fl, fs, fg, ff⟩ ad = true ∧ (fg || fs == sp) = true) := hff
          generalize findB X sp ad = B at HF HM
          generalize hasB ⟨fa, fl, fs, fg, ff⟩ ad = hv at HH HM
          obtain ⟨m, hm⟩ : ∃ m, (allS X).length = m := ⟨_, rfl⟩
          have HM8 : Hid (m ≤ 8 ∧ m ≤ np) := ⟨by rw [← hm]; exact allK_len X 8, by rw [← hm, ← hnp.out]; exact hK.out.few⟩
          have HA : Hid (∀ l u, Grp W (T tb X :: l) u → Calls Try.prog 20 #[.pointer (some ⟨tb, 0, none⟩)] u (fun e0 w' => ∃ a c, e0 = .returned (.slice a m c) ∧ Grp W (T tb X :: l) w')) := fun l u h => by
            refine (allG O.out h 0 rfl hK.out.ok).mono ?_
            rintro e0 w' ⟨v, rfl, h1, h2, _⟩
            obtain ⟨a, c, rfl⟩ := h1.slice
            exact ⟨a, c, by rw [hm], h2⟩
          clear hF hff hFO hm
          go_upto_region 37 with (go_at_call 14; refine (HF.out _ HX.out).mono ?_; rintro e0 w3 ⟨rfl, h3⟩; have H3 := Lib.hid h3; clear h3)
          have H4 : Hid (Grp W [T tb X, eS0 36 (.slice pa np pc) L, eRow g 30 (stC kd lv ad sp lf gl), eRow w3.heap.size 33 (En.v ⟨fa, fl, fs, fg, ff⟩)] (w3.alloc (Obj.cells #[.int .u64 (fa : Nat), .int .i64 fl, .int .u64 (fs : Nat), .bool fg, .int .u64 (ff : Nat)] 33))) := newBox H3.out 33 (En.v ⟨fa, fl, fs, fg, ff⟩)
          generalize w3.alloc (Obj.cells #[.int .u64 (fa : Nat), .int .i64 fl, .int .u64 (fs : Nat), .bool fg, .int .u64 (ff : Nat)] 33) = w4 at H4 ⊢
          generalize w3.heap.size = gf at H4 ⊢
          clear H3 HF HX x0 x1 x2 x3 x4 x5
          go_wp2_with fail
          go_loopg [23, 24] np (fun g2 fv jv wr => ∃ (j : Nat) (fo : Bool), j + g2 = np ∧ jv = .int .i64 j ∧ fv = .bool fo ∧ Hid (fo = (!B || seenB L ⟨fa, fl, fs, fg, ff⟩ j)) ∧ Hid (Grp W [T tb X, eS0 36 (.slice pa np pc) L, eRow g 30 (stC kd lv ad sp lf gl), eRow gf 33 (En.v ⟨fa, fl, fs, fg, ff⟩)] wr))
          case atStart => exact ⟨0, !B, by omega, rfl, rfl, by show _ = _; unfold seenB; simp, H4.out⟩
          case round =>
            obtain ⟨j, fo, hj, rfl, rfl, hfo, hG⟩ := hrel
            clear H4
            cases gk with
            | zero =>
              as_aux_lemma =>
                obtain rfl : j = np := by omega
                have hfo2 : fo = true := by
                  rw [hfo.out]
                  cases hB : B with
                  | false => rfl
                  | true =>
                    have := seen_all (HM.out hB).1
                    rw [hnp.out] at this
                    rw [this]; rfl
                subst hfo2
                obtain ⟨y0, y1, y2, y3, y4, y5⟩ := st6 (rowAt hG.out 2 rfl).2
                obtain ⟨z0, z1, z2, z3, z4⟩ := rowx (rowAt hG.out 3 rfl).2
                go_upto_region 43 with (go_at_call 23; refine (HH.out _).mono ?_; rintro e0 w12 ⟨rfl, hb12⟩; have H12 := Lib.hid (hG.out.below hb12); clear hb12)
                clear y0 y1 y2 y3 y4 y5 z0 z1 z2 z3 z4 hG hfo HH
                obtain ⟨y0, y1, y2, y3, y4, y5⟩ := st6 (rowAt H12.out 2 rfl).2
                obtain ⟨z0, z1, z2, z3, z4⟩ := rowx (rowAt H12.out 3 rfl).2
                have e3 := cast_beq fs sp
                have HM2 : Hid (B = true → hv = true ∧ (fg || fs == sp) = true) := fun h => (HM.out h).2
                generalize (fs == sp) = q3 at e3 HM2
                have n3 : ((fs : Int) != (sp : Int)) = !q3 := by rw [← e3]; rfl
                clear e3 HM
                have hn8 : decide (j ≤ 8) = decide (j ≤ 8) := rfl
                go_cut [244] (fun t wx => t = .bool false ∧ wx = w12)
                case first =>
                  cases B <;> cases hv <;> cases fg <;> cases q3 <;> first
                    | exact absurd (HM2.out rfl) (by decide)
                    | (go_wp2_with fail
                       go_meet
                       exact ⟨rfl, rfl⟩)
                case rest =>
                  obtain ⟨rfl, rfl⟩ := hcut
                  clear y0 y1 y2 y3 y4 y5 z0 z1 z2 z3 z4 n3 HM2 hn8
                  have d8 : decide ((8 : Int) < (m : Int)) = false := decide_eq_false (by have := HM8.out.1; omega)
                  have dm : decide ((j : Int) < (m : Int)) = false := decide_eq_false (by have := HM8.out.2; omega)
                  have dmn : decide (j < m) = false := decide_eq_false (by have := HM8.out.2; omega)
                  by_cases hp8 : j ≤ 8
                  · have d9 : decide ((j : Int) ≤ 8) = true := decide_eq_true (by omega)
                    clear hp8
                    go_wp2_with (go_at_call 20; refine (HA.out _ _ H12.out).mono ?_; rintro e0 w13 ⟨a13, c13, rfl, h13⟩; have H13 := Lib.hid h13; clear h13)
                    go_roundg gg
                    case measure => omega
                    exact ⟨k + 1, X, L, pa, j, pc, by omega, by push_cast; rfl, rfl, hnp.out, hK.out, H13.out.pick _ id (fun i E h => by
                      match i, h with
                      | 0, h => exact h
                      | 1, h => exact h) (fun i j _ _ h => h)⟩
                  · have d9 : decide ((j : Int) ≤ 8) = false := decide_eq_false (by omega)
                    clear hp8
                    go_wp2_with (go_at_call 20; refine (HA.out _ _ H12.out).mono ?_; rintro e0 w13 ⟨a13, c13, rfl, h13⟩; have H13 := Lib.hid h13; clear h13)
                    go_roundg gg
                    case measure => omega
                    exact ⟨k + 1, X, L, pa, j, pc, by omega, by push_cast; rfl, rfl, hnp.out, hK.out, H13.out.pick _ id (fun i E h => by
                      match i, h with
                      | 0, h => exact h
                      | 1, h => exact h) (fun i j _ _ h => h)⟩
            | succ g2 =>
              as_aux_lemma =>
                have hjm : j < np := by omega
                have jlt : (j : Int) < np := by omega
                have jj1 : IntKind.i64.wrap ((j : Int) + 1) = (j : Int) + 1 := by have h1 := hnp.out; have h2 := hK.out.len; have h3 := HKN.out; exact IntWalk.i64_in _ (by omega)
                obtain ⟨gp, ya, ys, yf, yl, yg, rfl, _, _, hy, y0, y1, y2, y3, y4⟩ := (s0At hG.out 1 rfl).at5 (k := j) (by rw [hnp.out]; exact hjm)
                obtain ⟨z0, z1, z2, z3, z4⟩ := rowx (rowAt hG.out 3 rfl).2
                have hs := seen_next L ⟨fa, fl, fs, fg, ff⟩ j _ hy
                have HS : Hid ((!B || seenB L ⟨fa, fl, fs, fg, ff⟩ (j + 1)) = (fo || enB ⟨ya, yl, ys, yg, yf⟩ ⟨fa, fl, fs, fg, ff⟩)) := by show _ = _; rw [hs, hfo.out, Bool.or_assoc]
                clear hs hy
                replace y0 := cell_regrown y0; replace y1 := cell_regrown y1; replace y2 := cell_regrown y2; replace y3 := cell_regrown y3; replace y4 := cell_regrown y4
                replace z0 := cell_regrown z0; replace z1 := cell_regrown z1; replace z2 := cell_regrown z2; replace z3 := cell_regrown z3; replace z4 := cell_regrown z4
                go_upto_region 41 with fail
                cases fo with
                | true =>
                  refine wp_region_quiet_below (by kernel_rfl) (by kernel_rfl) ?_
                  repeat (go_big_quiet_step (fail))
                  refine wpQuiet_nil ?_
                  intro _ hw'
                  obtain ⟨⟨dq, osq⟩, hw''⟩ := hw'
                  subst hw''
                  have H5 := Lib.hid (hG.out.below (below_regrown wr dq osq))
                  generalize grow (redrawn wr dq) osq = w5 at H5 ⊢
                  clear y0 y1 y2 y3 y4 z0 z1 z2 z3 z4 hG
                  go_wp2_with fail
                  go_roundg g2
                  case measure => omega
                  exact ⟨j + 1, true, by omega, by push_cast; rfl, rfl, by show _ = _; rw [HS.out]; rfl, H5.out⟩
                | false =>
                  refine wp_region_quiet_below (by kernel_rfl) (by kernel_rfl) ?_
                  repeat (first
                    | go_big_quiet_skip
                    | (go_big_quiet_want; first
                        | (refine quiet_eq_en (.tmp 216) (.tmp 217) _ rfl ya ys yf fa fs ff yl fl yg fg rfl rfl ?_; simp only [Act.put, List.setIfInBounds_toArray, List.set_cons_succ, List.set_cons_zero]; go_big_quiet_on)
                        | (go_big_quiet_op; first | go_big_quiet_on | go_big_quiet_call (fail))))
                  refine wpQuiet_nil ?_
                  intro _ hw'
                  obtain ⟨⟨dq, osq⟩, hw''⟩ := hw'
                  subst hw''
                  have H5 := Lib.hid (hG.out.below (below_regrown wr dq osq))
                  generalize grow (redrawn wr dq) osq = w5 at H5 ⊢
                  obtain ⟨en, hen⟩ : ∃ en, enB ⟨ya, yl, ys, yg, yf⟩ ⟨fa, fl, fs, fg, ff⟩ = en := ⟨_, rfl⟩
                  rw [hen] at HS ⊢
                  clear y0 y1 y2 y3 y4 z0 z1 z2 z3 z4 hG hen
                  go_wp2_with fail
                  go_roundg g2
                  case measure => omega
                  exact ⟨j + 1, en, by omega, by push_cast; rfl, rfl, by show _ = _; rw [HS.out]; rfl, H5.out⟩
end Go.Proofs.Ytdplcdgdndeopaa
