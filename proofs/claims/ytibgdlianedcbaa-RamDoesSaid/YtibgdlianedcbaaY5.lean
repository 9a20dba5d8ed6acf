/- The walk of RamDoes. -/
import Derived.Test.YtibgdlianedcbaaY4
namespace Go.Proofs.Ytibgdlianedcbaa
open Go.ChangeShapes Go.WideShapes Go.ChangeAt Go.RowKit
set_option linter.unusedVariables false
set_option linter.unusedSimpArgs false
set_option maxRecDepth 100000 in
set_option maxHeartbeats 8000000 in
theorem does_core (w : World) (sa : Option Addr) (g0 o0 n0 c0 : Nat) (B0 : Nat → Nat) (ta : Option Addr) (b o N cap : Nat) (K Z : Nat → Int) (A V : Nat → Nat) (X : Nat → Option Addr) (XL XC : Nat → Nat) (hI : Hid (Byt w sa g0 o0 n0 c0 B0)) (hn0 : Hid (n0 ≤ 140737488355328)) (hS : Hid (Steps w b o N K Z A V X XL XC)) (hta : Hid (0 < N → ta = some ⟨b, o, none⟩ ∧ b < w.heap.size)) (hN : Hid (N ≤ 9223372036854775807)) (hX : Hid (∀ i, i < N → ∃ g o B, Byt w (X i) g o (XL i) (XC i) B)) :
    Calls Try.prog 3 #[.slice sa n0 c0, .slice ta N cap] w (RetB true w) := by
  go_enter Try.func3, Try.ntmps3
  go_wp2_with fail
  refine (fixed_c w).mono ?_; rintro e w1 ⟨rfl, hb1⟩
  have HB := Lib.hid hb1; clear hb1
  go_wp2_with fail
  refine (newM (bes_nil HB.out)).mono ?_; rintro e w2 ⟨m0, rfl, h⟩
  have HA1 : Hid (Bes w [eM m0 Z0] w2) := h; clear h HB
  go_wp2_with fail
  refine (newR HA1.out).mono ?_; rintro e w3 ⟨r0, rfl, h⟩
  have HA : Hid (Bes w [eM m0 Z0, eR r0 Z0] w3) := h; clear h HA1
  have HI3 : Hid (Byt w3 sa g0 o0 n0 c0 B0) := hI.out.below HA.out.out
  go_wp2_with (at_builtin; refine append_all2 rfl _ _ rfl (bL_len n0 B0) (HI3.out.below (below_one w3 _)).src _ rfl rfl hn0.out ?_; intro a1 cc gg w4 q1 q2 q3)
  have HA4 : Hid (Bes w [eM m0 Z0, eR r0 Z0, eB (.slice a1 n0 cc) (bL n0 B0)] w4) := HA.out.newB ((below_one w3 _).trans (q2.mono (by rw [sz_alloc]; omega))) q1 (fun h => Nat.le_trans (by rw [sz_alloc]; omega) (q3 h))
  clear q1 q2 q3 HA HI3
  go_wp2_with fail
  refine (layMB HA4.out 0 2 (by decide) rfl rfl).mono ?_; rintro e w5 ⟨rfl, h⟩
  have HA5 : Hid (Bes w [eM m0 (layI Z0 n0 B0), eR r0 Z0, eB (.slice a1 n0 cc) (bL n0 B0)] w5) := by
    rw [← layI_congr Z0 n0 _ B0 (fun i hi => bL_get n0 B0 i hi)]; exact h
  clear h HA4
  go_wp2_with fail
  refine (layR HA5.out 1 rfl hI).mono ?_; rintro e w6 ⟨rfl, h⟩
  obtain ⟨F0, hF0⟩ : ∃ F0, layI Z0 n0 B0 = F0 := ⟨_, rfl⟩
  obtain ⟨SB, hSB⟩ : ∃ SB, strB (bL n0 B0) = SB := ⟨_, rfl⟩
  have HA6 : Hid (Bes w [eM m0 F0, eR r0 F0, eB (.slice a1 n0 cc) (bL n0 B0)] w6) := by show Bes _ _ _; rw [← hF0]; exact h
  clear h HA5
  have cv1 := HA6.out.conv 2 rfl
  have cv2 := (hI.out.below HA6.out.out).conv
  rw [hSB] at cv1 cv2
  clear hF0 hSB
  have HL0 : Hid (∃ L, Bes w [eM m0 F0, eR r0 F0, eB (.slice a1 n0 cc) L] w6) := ⟨_, HA6.out⟩
  obtain ⟨ok, hok⟩ : ∃ ok, decide (n0 ≤ 1048576) = ok := ⟨_, rfl⟩
  rw [hok]
  clear hok
  go_wp2_with fail
  clear cv1 cv2
  go_loopw [12] (fun iv wr => ∃ (i : Nat), i ≤ n0 ∧ iv = .int .i64 i ∧ Hid (∃ L, Bes w [eM m0 F0, eR r0 F0, eB (.slice a1 n0 cc) L] wr)) (fun iv _ => n0 - (intOf iv).toNat)
  case atStart => exact ⟨0, Nat.zero_le _, rfl, HL0⟩
  case round =>
    clear HL0 HA6
    obtain ⟨i, hi, rfl, HLi⟩ := hrel
    by_cases hlt : i < n0
    · have hlt' : (i : Int) < n0 := by omega
      obtain ⟨L, hL⟩ := HLi.out
      obtain ⟨g, o1, rfl, c1, f1⟩ := hL.cellB 2 rfl i hlt
      have HP := Lib.hid (hL.putB 2 rfl rfl i 77 hlt)
      clear hL HLi
      have kk1 : IntKind.i64.wrap ((i : Int) + 1) = (i : Int) + 1 := IntWalk.i64_in _ (by have := hn0.out; omega)
      go_wp2_with fail
      go_roundw
      case rel => exact ⟨i + 1, by omega, by go_num, _, HP.out⟩
      case measure => simp [intOf]; omega
    · obtain rfl : i = n0 := by omega
      obtain ⟨L, hL⟩ := HLi.out
      have HA : Hid (Bes w [eM m0 F0, eR r0 F0] wr) := hL.pick _ id (fun i E hi => by
        match i, hi with
        | 0, hi => exact hi
        | 1, hi => exact hi
        | n + 2, hi => simp at hi) (fun i j _ _ h => h)
      clear hL HLi
      go_wp2_with fail
      go_loopw [5, 6, 7, 8, 13] (fun mv rv ov sv iv wr => ∃ (k m r od ws : Nat) (F : Nat → Nat) (t : List Th), k ≤ N ∧ iv = .int .i64 k ∧ mv = .pointer (some ⟨m, 0, none⟩) ∧ rv = .pointer (some ⟨r, 0, none⟩) ∧ ov = .pointer (some ⟨od, 0, none⟩) ∧ sv = .pointer (some ⟨ws, 0, none⟩) ∧ Hid (Bes w (eM m F :: eR r F :: t) wr) ∧ Hid (Oldt t m r od ws)) (fun _ _ _ _ iv _ => N - (intOf iv).toNat)
      case atStart => exact ⟨0, m0, r0, m0, r0, F0, [], Nat.zero_le _, rfl, rfl, rfl, rfl, rfl, HA, .inl ⟨rfl, rfl, rfl⟩⟩
      case round =>
        clear HA
        obtain ⟨k, m, r, od, ws, F, t, hk, rfl, rfl, rfl, rfl, rfl, HA, HO⟩ := hrel
        have HF8 : Hid (∀ x, F x < 256) := by
          obtain ⟨R, h⟩ := HA.out.isR 1 rfl
          exact h.f8
        by_cases hlt : k < N
        · have hlt' : (k : Int) < N := by omega
          obtain ⟨rfl, hbl⟩ := hta.out (by omega)
          obtain ⟨y0, y1, y2, y3, y4, la, lv⟩ := (steps_below hS.out hbl HA.out.out) k hlt
          obtain ⟨gx, ox, BX, hBX⟩ := hX.out k hlt
          have HBX := Lib.hid hBX
          obtain ⟨xk, hxk⟩ : ∃ x, K k = x := ⟨_, rfl⟩
          obtain ⟨xa, hxa⟩ : ∃ x, A k = x := ⟨_, rfl⟩
          obtain ⟨xz, hxz⟩ : ∃ x, Z k = x := ⟨_, rfl⟩
          obtain ⟨xv, hxv⟩ : ∃ x, V k = x := ⟨_, rfl⟩
          obtain ⟨xs, hxs⟩ : ∃ x, X k = x := ⟨_, rfl⟩
          obtain ⟨xl, hxl⟩ : ∃ x, XL k = x := ⟨_, rfl⟩
          obtain ⟨xc, hxc⟩ : ∃ x, XC k = x := ⟨_, rfl⟩
          rw [hxk] at y0; rw [hxa] at y1 la; rw [hxz] at y2; rw [hxv] at y3 lv; rw [hxs, hxl, hxc] at y4 HBX
          clear hxk hxa hxz hxv hxs hxl hxc hbl hBX
          replace lv : Hid (xv < 18446744073709551616) := lv
          replace la : Hid (xa < 18446744073709551616) := la
          have kk1 : IntKind.i64.wrap ((k : Int) + 1) = (k : Int) + 1 := by have := hN.out; exact IntWalk.i64_in _ (by omega)
          go_upto_region 20 with fail
          rename_i K1 k1
          clear y0 y1 y2 y3 y4
          have HX : Hid (Bes w (eX wr.heap.size xk xz xa xv (.slice xs xl xc) :: eM m F :: eR r F :: t) (wr.alloc (Obj.cells #[.int .i64 xk, .int .u64 xa, .int .i64 xz, .int .u64 xv, .slice xs xl xc] 32))) := (HA.out.newX xk xz xa xv (.slice xs xl xc) _).front
          clear HA
          generalize (wr.alloc (Obj.cells #[Value.int .i64 xk, Value.int .u64 xa, Value.int .i64 xz, Value.int .u64 xv, Value.slice xs xl xc] 32)) = wx at *
          generalize wr.heap.size = X0 at *
          obtain ⟨hxs, x0, x1, x2, x3, x4⟩ := HX.out.isX 0 rfl
          by_cases e0 : xk = 0
          · subst e0
            obtain ⟨ok, hok⟩ : ∃ ok, hasV xa xz = ok := ⟨_, rfl⟩
            obtain ⟨F1, hF1⟩ : ∃ F1, wrF F xa xz xv = F1 := ⟨_, rfl⟩
            have WM := fun w9 (h : Bes w (eX X0 0 xz xa xv (.slice xs xl xc) :: eM m F :: eR r F :: t) w9) => writeM h 1 rfl xa xv xz la lv
            have WR := fun w9 (h : Bes w (eX X0 0 xz xa xv (.slice xs xl xc) :: eM m F1 :: eR r F :: t) w9) => writeR h 2 rfl xa xv xz la
            rw [hok, hF1] at WM WR
            clear hok hF1
            replace WM := Lib.hid WM; replace WR := Lib.hid WR
            go_wp2_with fail
            refine (WM.out _ HX.out).mono ?_; rintro e w3 ⟨rfl, h⟩
            replace HX : Hid (Bes w (eX X0 0 xz xa xv (.slice xs xl xc) :: eM m F1 :: eR r F :: t) w3) := h; clear h hxs x0 x1 x2 x3 x4
            obtain ⟨hxs, x0, x1, x2, x3, x4⟩ := HX.out.isX 0 rfl
            go_wp2_with fail
            refine (WR.out _ HX.out).mono ?_; rintro e w4 ⟨rfl, h⟩
            have HM : Hid (Bes w (eM m F1 :: eR r F1 :: t) w4) := by
              have h2 : Bes w (eX X0 0 xz xa xv (.slice xs xl xc) :: eM m F1 :: eR r F1 :: t) w4 := h
              exact h2.rest
            clear h hxs x0 x1 x2 x3 x4
            go_wp2_with fail
            go_roundw
            case rel => exact ⟨k + 1, m, r, od, ws, _, t, by omega, by go_num, rfl, rfl, rfl, rfl, HM, HO⟩
            case measure => simp [intOf]; omega
          · by_cases e1 : xk = 1
            · subst e1
              clear e0
              obtain ⟨ok, hok⟩ : ∃ ok, hasV xa xz = ok := ⟨_, rfl⟩
              obtain ⟨x, hx⟩ : ∃ x, readV F xa xz = x := ⟨_, rfl⟩
              have RM := fun w9 (h : Bes w (eX X0 1 xz xa xv (.slice xs xl xc) :: eM m F :: eR r F :: t) w9) => readM h 1 rfl HF8.out xa xz la
              have RR := fun w9 (h : Bes w (eX X0 1 xz xa xv (.slice xs xl xc) :: eM m F :: eR r F :: t) w9) => readR h 2 rfl xa xz la
              rw [hok, hx] at RM RR
              clear hok hx
              replace RM := Lib.hid RM; replace RR := Lib.hid RR
              go_wp2_with fail
              refine (RM.out _ HX.out).mono ?_; rintro e w3 ⟨rfl, h⟩
              replace HX : Hid (Bes w (eX X0 1 xz xa xv (.slice xs xl xc) :: eM m F :: eR r F :: t) w3) := h; clear h hxs x0 x1 x2 x3 x4
              obtain ⟨hxs, x0, x1, x2, x3, x4⟩ := HX.out.isX 0 rfl
              go_wp2_with fail
              refine (RR.out _ HX.out).mono ?_; rintro e w4 ⟨rfl, h⟩
              have HM : Hid (Bes w (eM m F :: eR r F :: t) w4) := h.rest
              clear h hxs x0 x1 x2 x3 x4
              go_wp2_with fail
              go_roundw
              case rel => exact ⟨k + 1, m, r, od, ws, _, t, by omega, by go_num, rfl, rfl, rfl, rfl, HM, HO⟩
              case measure => simp [intOf]; omega
            · by_cases e2 : xk = 2
              · subst e2
                clear e0 e1
                obtain ⟨ok, hok⟩ : ∃ ok, hasV xa xz = ok := ⟨_, rfl⟩
                have K1 := cell_regrown x1; have K2 := cell_regrown x2
                have qM : ∀ dd os, Calls Try.prog 16 #[.pointer (some ⟨m, 0, none⟩), .int .u64 xa, .int .i64 xz] (Go.Sort.grow (redrawn wx dd) os) fun e w'' => e = .returned (.bool ok) ∧ ∃ p : Regrown, w'' = Go.Sort.grow (redrawn wx p.d) p.os := fun dd os => q_bool hok (has_c _ xa la xz _)
                have qR : ∀ dd os, Calls Try.prog 17 #[.pointer (some ⟨r, 0, none⟩), .int .u64 xa, .int .i64 xz] (Go.Sort.grow (redrawn wx dd) os) fun e w'' => e = .returned (.bool ok) ∧ ∃ p : Regrown, w'' = Go.Sort.grow (redrawn wx p.d) p.os := fun dd os => q_bool hok (hasr_c _ xa xz la _)
                clear hok
                go_wp2_with fail
                refine wp_region_quiet_below (by kernel_rfl) (by kernel_rfl) ?_
                repeat (go_big_quiet_step (first | (go_at_call 16; exact qM _ _) | (go_at_call 17; exact qR _ _)))
                refine wpQuiet_nil ?_
                intro _ hw'
                obtain ⟨⟨dq, osq⟩, hw''⟩ := hw'
                subst hw''
                have hb := below_regrown wx dq osq
                generalize Go.Sort.grow (redrawn wx dq) osq = w3 at hb ⊢
                clear K1 K2 qM qR
                have HM : Hid (Bes w (eM m F :: eR r F :: t) w3) := (HX.out.below hb).rest
                clear hb hxs x0 x1 x2 x3 x4
                go_wp2_with fail
                go_roundw
                case rel => exact ⟨k + 1, m, r, od, ws, _, t, by omega, by go_num, rfl, rfl, rfl, rfl, HM, HO⟩
                case measure => simp [intOf]; omega
              · by_cases e3 : xk = 3
                · subst e3
                  clear e0 e1 e2
                  have HPN := Lib.hid (pages_len F)
                  obtain ⟨LP, hLP⟩ : ∃ LP, pagesL F = LP := ⟨_, rfl⟩
                  have PM := fun w9 (h : Bes w (eX X0 3 xz xa xv (.slice xs xl xc) :: eM m F :: eR r F :: t) w9) => pagesM h 1 rfl
                  have PR := fun w9 (h : Bes w (eX X0 3 xz xa xv (.slice xs xl xc) :: eM m F :: eR r F :: t) w9) => pagesR h 2 rfl
                  unfold RetPg at PM PR
                  rw [hLP] at PM PR HPN
                  clear hLP
                  replace PM := Lib.hid PM; replace PR := Lib.hid PR
                  clear hxs x0 x1 x2 x3 x4
                  obtain ⟨hxs, x0, x1, x2, x3, x4⟩ := HX.out.isX 0 rfl
                  go_wp2_with fail
                  refine (PM.out _ HX.out).mono ?_; rintro e w3 ⟨v3, rfl, hl, hb3⟩
                  obtain ⟨ra, rc, rg, rfl, hr⟩ := hl.parts
                  obtain ⟨ln, hln⟩ : ∃ ln, LP.length = ln := ⟨_, rfl⟩
                  have HLN := Lib.hid hln
                  rw [hln] at hr HPN ⊢
                  have ln256 : (ln : Int) ≤ 256 := by have := HPN.out; omega
                  have HR := Lib.hid hr
                  have HB3 := Lib.hid hb3
                  have HXs := Lib.hid HX.out
                  replace HX := Lib.hid (HX.out.below hb3)
                  clear hln hl hr hb3 hxs x0 x1 x2 x3 x4
                  go_wp2_with fail
                  refine (PR.out _ HX.out).mono ?_; rintro e w4 ⟨v4, rfl, hl, hb4⟩
                  obtain ⟨sa4, sc4, sg4, rfl, hs4⟩ := hl.parts
                  rw [HLN.out] at hs4 ⊢
                  have HS4 := Lib.hid hs4
                  have HR4 : Hid (0 < ln → ra = some ⟨rg, 0, none⟩ ∧ wx.heap.size ≤ rg ∧ RowU w4 rg ln (fun i => LP.getD i 0)) := fun h0 => ⟨(HR.out h0).1, (HR.out h0).2.1, (HR.out h0).2.2.below hb4⟩
                  have HB4 : Hid (Below wx.heap.size wx w4) := HB3.out.trans (hb4.mono HB3.out.size)
                  clear hl hs4 hb4 HB3 HR HX
                  have LC := list_c ra sa4 ln ln rc sc4 LP LP w4 HLN.out HLN.out (fun h0 => ⟨rg, (HR4.out (by rw [← HLN.out]; exact h0)).1, by rw [HLN.out]; exact (HR4.out (by rw [← HLN.out]; exact h0)).2.2⟩) (fun h0 => ⟨sg4, (HS4.out (by rw [← HLN.out]; exact h0)).1, by rw [HLN.out]; exact (HS4.out (by rw [← HLN.out]; exact h0)).2.2⟩) (by have := HPN.out; show _ < _; omega)
                  rw [decide_eq_true (rfl : LP = LP)] at LC
                  replace LC := Lib.hid LC
                  clear HS4
                  go_wp2_with fail
                  refine LC.out.mono ?_; rintro e w5 ⟨rfl, hb5⟩
                  have HR5 : Hid (0 < ln → ra = some ⟨rg, 0, none⟩ ∧ wx.heap.size ≤ rg ∧ RowU w5 rg ln (fun i => LP.getD i 0)) := fun h0 => ⟨(HR4.out h0).1, (HR4.out h0).2.1, (HR4.out h0).2.2.below hb5⟩
                  have HB5 : Hid (Below wx.heap.size wx w5) := HB4.out.trans (hb5.mono HB4.out.size)
                  clear hb5 LC HR4 HB4
                  go_wp2_with fail
                  go_loopw [23] (fun jv wr2 => ∃ (j : Nat) (Y : Nat → Nat), j ≤ ln ∧ jv = .int .i64 j ∧ Hid (0 < ln → ra = some ⟨rg, 0, none⟩ ∧ wx.heap.size ≤ rg ∧ RowU wr2 rg ln Y) ∧ Hid (Below wx.heap.size wx wr2)) (fun jv _ => ln - (intOf jv).toNat)
                  case atStart => exact ⟨0, _, Nat.zero_le _, rfl, HR5, HB5⟩
                  case round =>
                    clear HR5 HB5
                    obtain ⟨j, Y, hj, rfl, HRj, HBj⟩ := hrel
                    by_cases hjl : j < ln
                    · have hjl' : (j : Int) < ln := by omega
                      obtain ⟨rfl, hwg, hrow⟩ := HRj.out (by omega)
                      have cj := (hrow.2 j hjl).1
                      have fj := (hrow.2 j hjl).2
                      have HP : Hid (RowU (wr.setCell ⟨rg, j, none⟩ (.int .u64 (5 : Nat))) rg ln (fun i => if i = j then 5 else Y i)) := hrow.set j 5 hjl (fun i _ => rfl)
                      have HB6 : Hid (Below wx.heap.size wx (wr.setCell ⟨rg, j, none⟩ (.int .u64 (5 : Nat)))) := Below.setCell HBj.out hwg _
                      have HWG := Lib.hid hwg
                      have kj1 : IntKind.i64.wrap ((j : Int) + 1) = (j : Int) + 1 := IntWalk.i64_in _ (by omega)
                      clear hrow hwg
                      go_wp2_with fail
                      go_roundw
                      case rel => exact ⟨j + 1, _, by omega, by go_num, fun _ => ⟨by first | rfl | trivial, HWG.out, HP.out⟩, HB6⟩
                      case measure => simp [intOf]; omega
                    · obtain rfl : j = ln := by omega
                      have HM : Hid (Bes w (eM m F :: eR r F :: t) wr) := (HXs.out.below HBj.out).rest
                      clear HRj
                      go_wp2_with fail
                      go_roundw
                      case rel => exact ⟨k + 1, m, r, od, ws, _, t, by omega, by go_num, rfl, rfl, rfl, rfl, HM, HO⟩
                      case measure => simp [intOf]; omega
                · by_cases e4 : xk = 4
                  · subst e4
                    clear e0 e1 e2 e3
                    obtain ⟨F1, hF1⟩ : ∃ F1, wrF F xa xz xv = F1 := ⟨_, rfl⟩
                    replace HX : Hid (Bes w [eX X0 4 xz xa xv (.slice xs xl xc), eM m F, eR r F] wx) := HX.out.three
                    clear HO
                    have CM := copyM HX.out 1 rfl
                    go_wp2_with fail
                    refine CM.mono ?_; rintro e w3 ⟨m2, rfl, h⟩
                    replace HX : Hid (Bes w [eX X0 4 xz xa xv (.slice xs xl xc), eM m F, eR r F, eM m2 F] w3) := h; clear h hxs x0 x1 x2 x3 x4 CM
                    obtain ⟨hxs, x0, x1, x2, x3, x4⟩ := HX.out.isX 0 rfl
                    have CM := copyR HX.out 2 rfl
                    go_wp2_with fail
                    refine CM.mono ?_; rintro e w4 ⟨r2, rfl, h⟩
                    replace HX : Hid (Bes w [eX X0 4 xz xa xv (.slice xs xl xc), eM m F, eR r F, eM m2 F, eR r2 F] w4) := h; clear h hxs x0 x1 x2 x3 x4 CM
                    obtain ⟨hxs, x0, x1, x2, x3, x4⟩ := HX.out.isX 0 rfl
                    have WM := writeM HX.out 1 rfl xa xv xz la lv
                    rw [hF1] at WM
                    go_wp2_with fail
                    refine WM.mono ?_; rintro e w5 ⟨rfl, h⟩
                    replace HX : Hid (Bes w [eX X0 4 xz xa xv (.slice xs xl xc), eM m F1, eR r F, eM m2 F, eR r2 F] w5) := h; clear h hxs x0 x1 x2 x3 x4 WM
                    obtain ⟨hxs, x0, x1, x2, x3, x4⟩ := HX.out.isX 0 rfl
                    have WM := writeR HX.out 2 rfl xa xv xz la
                    rw [hF1] at WM
                    go_wp2_with fail
                    refine WM.mono ?_; rintro e w6 ⟨rfl, h⟩
                    have HM : Hid (Bes w [eM m2 F, eR r2 F, eM m F1, eR r F1] w6) := by
                      have h2 : Bes w [eX X0 4 xz xa xv (.slice xs xl xc), eM m F1, eR r F1, eM m2 F, eR r2 F] w6 := h
                      exact h2.swap4
                    clear h hxs x0 x1 x2 x3 x4 WM hF1
                    go_wp2_with fail
                    go_roundw
                    case rel => exact ⟨k + 1, m2, r2, m, r, F, [eM m F1, eR r F1], by omega, by go_num, rfl, rfl, rfl, rfl, HM, .inr ⟨F1, rfl⟩⟩
                    case measure => simp [intOf]; omega
                  · by_cases e5 : xk = 5
                    · subst e5
                      clear e0 e1 e2 e3 e4
                      obtain ⟨ok, hok⟩ : ∃ ok, decide (xl ≤ 1048576) = ok := ⟨_, rfl⟩
                      obtain ⟨F1, hF1⟩ : ∃ F1, layI F xl BX = F1 := ⟨_, rfl⟩
                      have LM := fun w9 (h : Bes w (eX X0 5 xz xa xv (.slice xs xl xc) :: eM m F :: eR r F :: t) w9) => layM h 1 rfl HBX
                      have LR := fun w9 (h : Bes w (eX X0 5 xz xa xv (.slice xs xl xc) :: eM m F1 :: eR r F :: t) w9) => layR h 2 rfl HBX
                      rw [hok, hF1] at LM LR
                      clear hok hF1
                      replace LM := Lib.hid LM; replace LR := Lib.hid LR
                      go_wp2_with fail
                      refine (LM.out _ HX.out).mono ?_; rintro e w3 ⟨rfl, h⟩
                      replace HX : Hid (Bes w (eX X0 5 xz xa xv (.slice xs xl xc) :: eM m F1 :: eR r F :: t) w3) := h; clear h hxs x0 x1 x2 x3 x4
                      obtain ⟨hxs, x0, x1, x2, x3, x4⟩ := HX.out.isX 0 rfl
                      go_wp2_with fail
                      refine (LR.out _ HX.out).mono ?_; rintro e w4 ⟨rfl, h⟩
                      have HM : Hid (Bes w (eM m F1 :: eR r F1 :: t) w4) := by
                        have h2 : Bes w (eX X0 5 xz xa xv (.slice xs xl xc) :: eM m F1 :: eR r F1 :: t) w4 := h
                        exact h2.rest
                      clear h hxs x0 x1 x2 x3 x4
                      go_wp2_with fail
                      go_roundw
                      case rel => exact ⟨k + 1, m, r, od, ws, _, t, by omega, by go_num, rfl, rfl, rfl, rfl, HM, HO⟩
                      case measure => simp [intOf]; omega
                    · obtain ⟨G, hG⟩ := oldt_at (w0 := w) (F := F) HO.out
                      have HG := Lib.hid hG
                      obtain ⟨⟨R1, hR1⟩, ⟨R2, hR2⟩, -, -⟩ := hG wx _ HX.out
                      have SC := samer_c R1 R2 r ws F G wx hR1 hR2
                      obtain ⟨sv, hsv⟩ : ∃ sv, sameV F G = sv := ⟨_, rfl⟩
                      have HSV : Hid (sameV F G = sv ∧ sameV G F = sv) := ⟨hsv, by rw [sameV_comm]; exact hsv⟩
                      rw [hsv] at SC
                      replace SC := Lib.hid SC
                      clear hG hR1 hR2 hsv
                      go_wp2_with fail
                      refine SC.out.mono ?_; rintro e w3 ⟨rfl, hb⟩
                      replace HX := Lib.hid (HX.out.below hb)
                      clear hb SC hxs x0 x1 x2 x3 x4
                      go_wp2_with fail
                      obtain ⟨-, -, ⟨S1, hS1⟩, S2, hS2⟩ := HG.out w3 _ HX.out
                      have SC := same_c S1 S2 m od F G w3 hS1 hS2
                      rw [HSV.out.1] at SC
                      replace SC := Lib.hid SC
                      clear hS1 hS2
                      refine SC.out.mono ?_; rintro e w4 ⟨rfl, hb⟩
                      replace HX := Lib.hid (HX.out.below hb)
                      clear hb SC
                      go_wp2_with fail
                      obtain ⟨-, -, ⟨S3, hS3⟩, S4, hS4⟩ := HG.out w4 _ HX.out
                      have SC := same_c S4 S3 od m G F w4 hS4 hS3
                      rw [HSV.out.2] at SC
                      replace SC := Lib.hid SC
                      clear hS3 hS4
                      refine SC.out.mono ?_; rintro e w5 ⟨rfl, hb⟩
                      have HM := Lib.hid (HX.out.below hb).rest
                      clear hb SC
                      go_wp2_with fail
                      go_roundw
                      case rel => exact ⟨k + 1, m, r, od, ws, _, t, by omega, by go_num, rfl, rfl, rfl, rfl, HM, HO⟩
                      case measure => simp [intOf]; omega
        · obtain rfl : k = N := by omega
          obtain ⟨ok2, hok⟩ : ∃ ok, hasV 2147483648 8 = ok := ⟨_, rfl⟩
          obtain ⟨x, hx⟩ : ∃ x, readV F 2147483648 8 = x := ⟨_, rfl⟩
          obtain ⟨LP, hLP⟩ : ∃ LP, pagesL F = LP := ⟨_, rfl⟩
          have HPN := Lib.hid (pages_len F)
          have RM := fun w9 (h : Bes w (eM m F :: eR r F :: t) w9) => readM h 0 rfl HF8.out 2147483648 8 (by show _ < _; decide)
          have RR := fun w9 (h : Bes w (eM m F :: eR r F :: t) w9) => readR h 1 rfl 2147483648 8 (by show _ < _; decide)
          have PM := fun w9 (h : Bes w (eM m F :: eR r F :: t) w9) => pagesM h 0 rfl
          have PR := fun w9 (h : Bes w (eM m F :: eR r F :: t) w9) => pagesR h 1 rfl
          unfold RetPg at PM PR
          rw [hLP] at PM PR HPN
          rw [hok, hx] at RM RR
          clear hok hx hLP
          replace RM := Lib.hid RM; replace RR := Lib.hid RR; replace PM := Lib.hid PM; replace PR := Lib.hid PR
          go_wp2_with fail
          refine (RM.out _ HA.out).mono ?_; rintro e w3 ⟨rfl, h⟩
          replace HA := Lib.hid h; clear h
          go_wp2_with fail
          refine (RR.out _ HA.out).mono ?_; rintro e w4 ⟨rfl, h⟩
          replace HA := Lib.hid h; clear h
          go_wp2_with fail
          refine (PM.out _ HA.out).mono ?_; rintro e w5 ⟨v3, rfl, hl, hb3⟩
          obtain ⟨ra, rc, rg, rfl, hr⟩ := hl.parts
          obtain ⟨ln, hln⟩ : ∃ ln, LP.length = ln := ⟨_, rfl⟩
          have HLN := Lib.hid hln
          rw [hln] at hr HPN ⊢
          have HR := Lib.hid hr
          replace HA := Lib.hid (HA.out.below hb3)
          clear hln hl hr hb3
          go_wp2_with fail
          refine (PR.out _ HA.out).mono ?_; rintro e w6 ⟨v4, rfl, hl, hb4⟩
          obtain ⟨sa4, sc4, sg4, rfl, hs4⟩ := hl.parts
          rw [HLN.out] at hs4 ⊢
          have HS4 := Lib.hid hs4
          have HR4 : Hid (0 < ln → ra = some ⟨rg, 0, none⟩ ∧ RowU w6 rg ln (fun i => LP.getD i 0)) := fun h0 => ⟨(HR.out h0).1, (HR.out h0).2.2.below hb4⟩
          replace HA := Lib.hid (HA.out.below hb4)
          clear hl hs4 hb4 HR
          have LC := list_c ra sa4 ln ln rc sc4 LP LP w6 HLN.out HLN.out (fun h0 => ⟨rg, (HR4.out (by rw [← HLN.out]; exact h0)).1, by rw [HLN.out]; exact (HR4.out (by rw [← HLN.out]; exact h0)).2⟩) (fun h0 => ⟨sg4, (HS4.out (by rw [← HLN.out]; exact h0)).1, by rw [HLN.out]; exact (HS4.out (by rw [← HLN.out]; exact h0)).2.2⟩) (by have := HPN.out; show _ < _; omega)
          rw [decide_eq_true (rfl : LP = LP)] at LC
          replace LC := Lib.hid LC
          clear HS4 HR4
          go_wp2_with fail
          refine LC.out.mono ?_; rintro e w7 ⟨rfl, hb5⟩
          have HB5 : Hid (Below w.heap.size w w7) := (HA.out.below hb5).out
          clear hb5 LC
          go_wp2_with fail
          go_ret
          exact retB_mk rfl HB5.out
end Go.Proofs.Ytibgdlianedcbaa
