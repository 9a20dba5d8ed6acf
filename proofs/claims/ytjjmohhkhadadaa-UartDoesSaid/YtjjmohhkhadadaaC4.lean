/- The walk of UartDoes. -/
import Derived.Test.YtjjmohhkhadadaaE3
import Derived.Test.YtjjmohhkhadadaaC3
namespace Go.Proofs.Ytjjmohhkhadadaa
open Go.ChangeShapes Go.WideShapes Go.ChangeAt Go.RowKit
set_option linter.unusedVariables false
set_option linter.unusedSimpArgs false
theorem All.moreN {w0 w : World} {l : List Ent} (h : All w0 l w) (i : Nat) {b N N2 : Nat} {U : Ur} (hi : l[i]? = some (eR b N U)) (hN : N ≤ N2) : All w0 (l.set i (eR b N2 U)) w := by
  refine h.set i hi (fun R W ⟨e, K, r, sa, n, c, g, o, ta, m, d, hh, p, x⟩ => ⟨⟨by rw [e], K, r, sa, n, c, g, o, ta, m, d, hh, p, x.mono hN (fun _ _ => .inl) (fun k j hk => hk.elim (x.rlt k j) (·.2))⟩, Ch.refl _ _⟩)
theorem pick2x {w0 w : World} {A B C : Ent} (h : All w0 [A, B, C] w) : All w0 [A, B] w := pick2 h
theorem pick34 {w0 w : World} {A B C D E : Ent} (h : All w0 [A, B, C, D, E] w) : All w0 [D, E] w := h.pick _ (· + 3) (fun i F hi => by
    match i, hi with
    | 0, hi => exact hi
    | 1, hi => exact hi
    | n + 2, hi => simp at hi) (fun i j _ _ h q => h (by omega))
set_option maxRecDepth 100000 in
set_option maxHeartbeats 8000000 in
theorem does_core (w : World) (b0 o0 N cap : Nat) (sa : Option Addr) (K Z : Nat → Int) (A V : Nat → Nat) (hS : Hid (Steps w b0 o0 N K Z A V)) (hsa : Hid (0 < N → sa = some ⟨b0, o0, none⟩ ∧ b0 < w.heap.size)) (hN : Hid (N < 4398046511104)) :
    Calls Try.prog 3 #[.slice sa N cap] w (RetB true w) := by
  go_enter Try.func3, Try.ntmps3
  go_wp2_with fail
  refine (fixed_c w).mono ?_; rintro e w1 ⟨rfl, hb1⟩
  have HB := Lib.hid hb1; clear hb1
  go_wp2_with fail
  refine (newA (all_nil HB.out)).mono ?_; rintro e w2 ⟨m0, rfl, h⟩
  have HA1 : Hid (All w [eU m0 U0] w2) := h; clear h HB
  go_wp2_with fail
  refine (newrA HA1.out).mono ?_; rintro e w3 ⟨r0, rfl, h⟩
  have HA : Hid (All w [eU m0 U0, eR r0 0 U0] w3) := h; clear h HA1
  go_wp2_with fail
  go_loopw [3, 4, 5] (fun mv rv iv wr => ∃ (k m r : Nat) (U : Ur), k ≤ N ∧ iv = .int .i64 k ∧ mv = .pointer (some ⟨m, 0, none⟩) ∧ rv = .pointer (some ⟨r, 0, none⟩) ∧ Hid (All w [eU m U, eR r k U] wr) ∧ Hid (U.sent.length ≤ k)) (fun _ _ iv _ => N - (intOf iv).toNat)
  case atStart => exact ⟨0, m0, r0, U0, Nat.zero_le _, rfl, rfl, rfl, HA, Nat.le_refl _⟩
  case round =>
    clear HA
    obtain ⟨k, m, r, U, hk, rfl, rfl, rfl, HA, HK⟩ := hrel
    by_cases hlt : k < N
    · have hlt' : (k : Int) < N := by omega
      obtain ⟨rfl, hbl⟩ := hsa.out (by omega)
      obtain ⟨y0, y1, y2, y3, lx, lv⟩ := (steps_below hS.out hbl HA.out.out) k hlt
      obtain ⟨xk, hxk⟩ : ∃ x, K k = x := ⟨_, rfl⟩
      obtain ⟨xa, hxa⟩ : ∃ x, A k = x := ⟨_, rfl⟩
      obtain ⟨xz, hxz⟩ : ∃ x, Z k = x := ⟨_, rfl⟩
      obtain ⟨xv, hxv⟩ : ∃ x, V k = x := ⟨_, rfl⟩
      rw [hxk] at y0; rw [hxa] at y1 lx; rw [hxz] at y2; rw [hxv] at y3 lv
      clear hxk hxa hxz hxv lx hbl
      replace lv : Hid (xv < 18446744073709551616) := lv
      have kk1 : IntKind.i64.wrap ((k : Int) + 1) = (k : Int) + 1 := by have := hN.out; exact IntWalk.i64_in _ (by omega)
      have HO9 : Hid (k < N) := hlt
      have HL : Hid (U.sent.length < 70368744177664) := by have := HK.out; have := hN.out; show _ < _; omega
      have HN : Hid (k < 70368744177664) := by have := hN.out; show _ < _; omega
      obtain ⟨y, hy⟩ : ∃ y, xv % 256 = y := ⟨_, rfl⟩
      have ey : IntKind.u8.wrap (xv : Int) = y := by rw [← hy]; simp [IntKind.wrap, IntKind.bits, IntKind.signed]
      have ey2 : (xv : Int) % 256 = y := by rw [← hy]; omega
      have Y8 : Hid (y < 256) := by show _ < _; omega
      clear hy
      go_upto_region 9 with fail
      rename_i K1 k1
      clear y0 y1 y2 y3
      have HX : Hid (All w [eU m U, eR r k U, eX wr.heap.size xk xz xa xv] (wr.alloc (Obj.cells #[.int .i64 xk, .int .u64 xa, .int .i64 xz, .int .u64 xv] 30))) := HA.out.newX xk xz xa xv _
      clear HA
      generalize (wr.alloc (Obj.cells #[Value.int .i64 xk, Value.int .u64 xa, Value.int .i64 xz, Value.int .u64 xv] 30)) = wx at *
      generalize wr.heap.size = X at *
      obtain ⟨hxs, x0, x1, x2, x3⟩ := HX.out.isX 2 rfl
      by_cases e0 : xk = 0
      · subst e0
        obtain ⟨kk, hkk⟩ : ∃ kk, kd xa xz = kk := ⟨_, rfl⟩
        have WM := fun w9 (h : All w [eU m U, eR r k U, eX X 0 xz xa xv] w9) => writeA (v := xv) h 0 rfl xa xz lv HL
        have WR := fun w9 (h : All w [eU m (wrK kk U xv), eR r k U, eX X 0 xz xa xv] w9) => writerA (v := xv) h 1 rfl xa xz lv HL
        rw [hkk] at WM WR
        obtain ⟨ok, hok⟩ : ∃ ok, okK kk = ok := ⟨_, rfl⟩
        rw [hok] at WM WR
        have HK2 : Hid ((wrK kk U xv).sent.length ≤ k + 1) := by have := HK.out; have := wr_sent_len kk xv U; show _ ≤ _; omega
        clear hok hkk
        replace WM := Lib.hid WM; replace WR := Lib.hid WR
        go_wp2_with fail
        refine (WM.out _ HX.out).mono ?_; rintro e w3 ⟨rfl, h⟩
        replace HX : Hid (All w [eU m (wrK kk U xv), eR r k U, eX X 0 xz xa xv] w3) := h; clear h hxs x0 x1 x2 x3
        obtain ⟨hxs, x0, x1, x2, x3⟩ := HX.out.isX 2 rfl
        go_wp2_with fail
        refine (WR.out _ HX.out).mono ?_; rintro e w4 ⟨rfl, h⟩
        have HM : Hid (All w [eU m (wrK kk U xv), eR r (k + 1) (wrK kk U xv)] w4) := by
          have h2 : All w [eU m (wrK kk U xv), eR r k (wrK kk U xv), eX X 0 xz xa xv] w4 := h
          exact pick2 (h2.moreN 1 rfl (Nat.le_succ _))
        clear h hxs x0 x1 x2 x3
        cases ok
        · go_wp2_with fail
          go_roundw
          case rel => exact ⟨k + 1, m, r, _, by omega, by go_num, rfl, rfl, HM, HK2⟩
          case measure => simp [intOf]; omega
        · go_wp2_with fail
          go_roundw
          case rel => exact ⟨k + 1, m, r, _, by omega, by go_num, rfl, rfl, HM, HK2⟩
          case measure => simp [intOf]; omega
      · by_cases e1 : xk = 1
        · subst e1
          clear e0
          obtain ⟨kk, hkk⟩ : ∃ kk, kd xa xz = kk := ⟨_, rfl⟩
          have RM := fun w9 (h : All w [eU m U, eR r k U, eX X 1 xz xa xv] w9) => readA h 0 rfl xa xz
          have RR := fun w9 (h : All w [eU m (nextK kk U), eR r k U, eX X 1 xz xa xv] w9) => readrA h 1 rfl xa xz HN
          rw [hkk] at RM RR
          obtain ⟨ok, hok⟩ : ∃ ok, okK kk = ok := ⟨_, rfl⟩
          obtain ⟨x, hx⟩ : ∃ x, valK kk U = x := ⟨_, rfl⟩
          rw [hok, hx] at RM RR
          have HK2 : Hid ((nextK kk U).sent.length ≤ k + 1) := by have := HK.out; show _ ≤ _; rw [next_sent]; omega
          clear hok hkk hx
          replace RM := Lib.hid RM; replace RR := Lib.hid RR
          go_wp2_with fail
          refine (RM.out _ HX.out).mono ?_; rintro e w3 ⟨rfl, h⟩
          replace HX : Hid (All w [eU m (nextK kk U), eR r k U, eX X 1 xz xa xv] w3) := h; clear h hxs x0 x1 x2 x3
          obtain ⟨hxs, x0, x1, x2, x3⟩ := HX.out.isX 2 rfl
          go_wp2_with fail
          refine (RR.out _ HX.out).mono ?_; rintro e w4 ⟨rfl, h⟩
          have HM : Hid (All w [eU m (nextK kk U), eR r (k + 1) (nextK kk U)] w4) := by
            have h2 : All w [eU m (nextK kk U), eR r k (nextK kk U), eX X 1 xz xa xv] w4 := h
            exact pick2 (h2.moreN 1 rfl (Nat.le_succ _))
          clear h hxs x0 x1 x2 x3
          cases ok
          · go_wp2_with fail
            go_roundw
            case rel => exact ⟨k + 1, m, r, _, by omega, by go_num, rfl, rfl, HM, HK2⟩
            case measure => simp [intOf]; omega
          · go_wp2_with fail
            go_roundw
            case rel => exact ⟨k + 1, m, r, _, by omega, by go_num, rfl, rfl, HM, HK2⟩
            case measure => simp [intOf]; omega
        · by_cases e2 : xk = 2
          · subst e2
            clear e0 e1
            obtain ⟨kk, hkk⟩ : ∃ kk, kd xa xz = kk := ⟨_, rfl⟩
            obtain ⟨y1, hy1⟩ : ∃ y1, (y + 1) % 256 = y1 := ⟨_, rfl⟩
            have ez : IntKind.u8.wrap ((y : Int) + 1) = y1 := by rw [← hy1]; simp [IntKind.wrap, IntKind.bits, IntKind.signed]
            have ez2 : ((y : Int) + 1) % 256 = y1 := by rw [← hy1]; omega
            have Z8 : Hid (y1 < 256) := by show _ < _; omega
            obtain ⟨v1, hv1⟩ : ∃ v1, (xv + 1) % 18446744073709551616 = v1 := ⟨_, rfl⟩
            have ev : IntKind.u64.wrap ((xv : Int) + 1) = v1 := by rw [IntKind.wrap_u64, ← hv1]; omega
            have V8 : Hid (v1 < 18446744073709551616) := by show _ < _; omega
            clear hy1 hv1
            have WM := fun w9 r9 m9 (h : All w [eU m U, eR r k U, eX X 2 xz xa xv, eU m9 U, eR r9 k U] w9) => writeA (v := xv) h 0 rfl xa xz lv HL
            have RM := fun w9 r9 m9 (h : All w [eU m (wrK kk U xv), eR r k U, eX X 2 xz xa xv, eU m9 U, eR r9 k U] w9) => readA h 0 rfl xa xz
            rw [hkk] at WM RM
            replace WM := Lib.hid WM; replace RM := Lib.hid RM
            clear hkk
            obtain ⟨O2, hO2⟩ : ∃ O2, nextK kk (wrK kk U xv) = O2 := ⟨_, rfl⟩
            have HO2 : Hid ((giveF O2 y).sent.length < 70368744177664) := by
              have := HK.out; have := wr_sent_len kk xv U; have := hN.out
              show _ < _
              rw [give_sent, ← hO2, next_sent]; omega
            have HG : Hid ((giveF U y1).sent.length < 70368744177664) := by show _ < _; rw [give_sent]; exact HL.out
            have HK2 : Hid ((wrK 1 (giveF U y1) v1).sent.length ≤ k + 1) := by have := HK.out; have := wr_sent_len 1 v1 (giveF U y1); rw [give_sent] at this; show _ ≤ _; omega
            have HOO := Lib.hid hO2; clear hO2
            go_wp2_with fail
            refine (copyA HX.out 0 rfl).mono ?_; rintro e w3 ⟨m9, rfl, h⟩
            replace HX : Hid (All w [eU m U, eR r k U, eX X 2 xz xa xv, eU m9 U] w3) := h; clear h hxs x0 x1 x2 x3
            go_wp2_with fail
            refine (copyrA HX.out 1 rfl HN HL).mono ?_; rintro e w4 ⟨r9, rfl, h⟩
            replace HX : Hid (All w [eU m U, eR r k U, eX X 2 xz xa xv, eU m9 U, eR r9 k U] w4) := h; clear h
            obtain ⟨hxs, x0, x1, x2, x3⟩ := HX.out.isX 2 rfl
            go_wp2_with fail
            refine (WM.out _ _ _ HX.out).mono ?_; rintro e w5 ⟨rfl, h⟩
            replace HX : Hid (All w [eU m (wrK kk U xv), eR r k U, eX X 2 xz xa xv, eU m9 U, eR r9 k U] w5) := h; clear h hxs x0 x1 x2 x3
            obtain ⟨hxs, x0, x1, x2, x3⟩ := HX.out.isX 2 rfl
            go_wp2_with fail
            refine (RM.out _ _ _ HX.out).mono ?_; rintro e w6 ⟨rfl, h⟩
            replace HX : Hid (All w [eU m O2, eR r k U, eX X 2 xz xa xv, eU m9 U, eR r9 k U] w6) := by
              have h2 : All w [eU m (nextK kk (wrK kk U xv)), eR r k U, eX X 2 xz xa xv, eU m9 U, eR r9 k U] w6 := h
              rw [HOO.out] at h2; exact h2
            clear h hxs x0 x1 x2 x3
            obtain ⟨hxs, x0, x1, x2, x3⟩ := HX.out.isX 2 rfl
            go_wp2_with fail
            refine (giveA HX.out 3 rfl Z8).mono ?_; rintro e w7 ⟨rfl, h⟩
            replace HX : Hid (All w [eU m O2, eR r k U, eX X 2 xz xa xv, eU m9 (giveF U y1), eR r9 k U] w7) := h; clear h hxs x0 x1 x2 x3
            obtain ⟨hxs, x0, x1, x2, x3⟩ := HX.out.isX 2 rfl
            go_wp2_with fail
            refine (giverA HX.out 4 rfl Z8 HN).mono ?_; rintro e w8 ⟨rfl, h⟩
            replace HX : Hid (All w [eU m O2, eR r k U, eX X 2 xz xa xv, eU m9 (giveF U y1), eR r9 (k + 1) (giveF U y1)] w8) := h; clear h hxs x0 x1 x2 x3
            obtain ⟨hxs, x0, x1, x2, x3⟩ := HX.out.isX 2 rfl
            go_wp2_with fail
            refine (writeA (v := v1) HX.out 3 rfl 0 1 V8 HG).mono ?_; rintro e w9 ⟨rfl, h⟩
            replace HX : Hid (All w [eU m O2, eR r k U, eX X 2 xz xa xv, eU m9 (wrK 1 (giveF U y1) v1), eR r9 (k + 1) (giveF U y1)] w9) := h; clear h hxs x0 x1 x2 x3
            obtain ⟨hxs, x0, x1, x2, x3⟩ := HX.out.isX 2 rfl
            go_wp2_with fail
            refine (writerA (v := v1) HX.out 4 rfl 0 1 V8 HG).mono ?_; rintro e w10 ⟨rfl, h⟩
            replace HX : Hid (All w [eU m O2, eR r k U, eX X 2 xz xa xv, eU m9 (wrK 1 (giveF U y1) v1), eR r9 (k + 1) (wrK 1 (giveF U y1) v1)] w10) := h; clear h hxs x0 x1 x2 x3
            obtain ⟨hxs, x0, x1, x2, x3⟩ := HX.out.isX 2 rfl
            go_wp2_with fail
            refine (giveA HX.out 0 rfl Y8).mono ?_; rintro e w11 ⟨rfl, h⟩
            replace HX : Hid (All w [eU m (giveF O2 y), eR r k U, eX X 2 xz xa xv, eU m9 (wrK 1 (giveF U y1) v1), eR r9 (k + 1) (wrK 1 (giveF U y1) v1)] w11) := h; clear h hxs x0 x1 x2 x3
            obtain ⟨hxs, x0, x1, x2, x3⟩ := HX.out.isX 2 rfl
            go_wp2_with fail
            refine (writeA (v := xv) HX.out 0 rfl 0 1 lv HO2).mono ?_; rintro e w12 ⟨rfl, h⟩
            have HM : Hid (All w [eU m9 (wrK 1 (giveF U y1) v1), eR r9 (k + 1) (wrK 1 (giveF U y1) v1)] w12) := by
              have h2 : All w [eU m (wrK (kd 0 1) (giveF O2 y) xv), eR r k U, eX X 2 xz xa xv, eU m9 (wrK 1 (giveF U y1) v1), eR r9 (k + 1) (wrK 1 (giveF U y1) v1)] w12 := h
              exact pick34 h2
            clear h hxs x0 x1 x2 x3
            go_wp2_with fail
            go_roundw
            case rel => exact ⟨k + 1, m9, r9, _, by omega, by go_num, rfl, rfl, HM, HK2⟩
            case measure => simp [intOf]; omega
          · by_cases e3 : xk = 3
            · subst e3
              clear e0 e1 e2
              have HK2 : Hid ((giveF U y).sent.length ≤ k + 1) := by have := HK.out; show _ ≤ _; rw [give_sent]; omega
              go_wp2_with fail
              refine (giveA HX.out 0 rfl Y8).mono ?_; rintro e w3 ⟨rfl, h⟩
              replace HX : Hid (All w [eU m (giveF U y), eR r k U, eX X 3 xz xa xv] w3) := h; clear h hxs x0 x1 x2 x3
              obtain ⟨hxs, x0, x1, x2, x3⟩ := HX.out.isX 2 rfl
              go_wp2_with fail
              refine (giverA HX.out 1 rfl Y8 HN).mono ?_; rintro e w4 ⟨rfl, h⟩
              have HM : Hid (All w [eU m (giveF U y), eR r (k + 1) (giveF U y)] w4) := by
                have h2 : All w [eU m (giveF U y), eR r (k + 1) (giveF U y), eX X 3 xz xa xv] w4 := h
                exact pick2 h2
              clear h hxs x0 x1 x2 x3
              go_wp2_with fail
              go_roundw
              case rel => exact ⟨k + 1, m, r, _, by omega, by go_num, rfl, rfl, HM, HK2⟩
              case measure => simp [intOf]; omega
            · have n0 : (xk == 0) = false := by simpa using e0
              have n1 : (xk == 1) = false := by simpa using e1
              have n2 : (xk == 2) = false := by simpa using e2
              have n3 : (xk == 3) = false := by simpa using e3
              clear e0 e1 e2 e3
              go_upto_region 10 with fail
              obtain ⟨wz, hwz⟩ : ∃ wz, wz = wx := ⟨_, rfl⟩
              rw [← hwz] at HX ⊢; clear hwz
              have HZ : Hid (All w [eU m U, eR r k U] wz) := pick2 HX.out
              have HK2 : Hid (U.sent.length ≤ k + 1) := by have := HK.out; show _ ≤ _; omega
              clear HX hxs x0 x1 x2 x3
              obtain ⟨tu, htu⟩ : ∃ tu, upF U = tu := ⟨_, rfl⟩
              have UM : Hid (∀ w9, Below wz.heap.size wz w9 → Calls Try.prog 18 #[.pointer (some ⟨m, 0, none⟩)] w9 (fun e w' => e = .returned (.bool tu) ∧ w' = w9)) := fun w9 hb => by rw [← htu]; exact upA (HZ.out.below hb) 0 rfl
              have UR : Hid (∀ w9, Below wz.heap.size wz w9 → Calls Try.prog 19 #[.pointer (some ⟨r, 0, none⟩)] w9 (RetB tu w9)) := fun w9 hb => by rw [← htu]; exact uprA (HZ.out.below hb) 1 rfl
              clear htu
              obtain ⟨SB, hSB⟩ : ∃ SB, strB U.sent = SB := ⟨_, rfl⟩
              have CV : Hid (∀ w9 a n c g o, SlA w9 a n c g o U.sent → (convert 35 9 (.slice a n c)).run Try.prog w9 = .ok (.string SB) w9) := fun w9 a n c g o h => by rw [← hSB]; exact conv_b h
              have SM : Hid (∀ w9, Below wz.heap.size wz w9 → Calls Try.prog 20 #[.pointer (some ⟨m, 0, none⟩)] w9 (RetSl U.sent w9)) := fun w9 hb => sentA (HZ.out.below hb) 0 rfl HL
              have SR : Hid (∀ w9, Below wz.heap.size wz w9 → Calls Try.prog 21 #[.pointer (some ⟨r, 0, none⟩)] w9 (RetSl U.sent w9)) := fun w9 hb => sentrA (HZ.out.below hb) 1 rfl HL
              clear hSB
              go_region_with (first
                  | (go_at_call 18; refine (UM.out _ ?_).mono ?_; exact below_drewN (Below.refl _ _) 1; rintro e w5 ⟨rfl, h5⟩; subst h5)
                  | (go_at_call 19; refine (UR.out _ ?_).mono ?_; exact below_drewN (Below.refl _ _) 1; rintro e w5 ⟨rfl, hb⟩; have HB5 := Lib.hid ((below_drewN (Below.refl wz.heap.size wz) 1).trans hb); clear hb)
                  | (go_at_call 20; refine (SM.out _ ?_).mono ?_; exact HB5.out; rintro e w6 ⟨a1, n1, c1, g1, rfl, s1, s2, hb⟩; have cv6 := CV.out _ _ _ _ _ _ s1; have HS1 := Lib.hid s1; have HB6 := Lib.hid (HB5.out.trans (hb.mono HB5.out.size)); clear s1 s2 hb)
                  | (go_at_call 21; refine (SR.out _ ?_).mono ?_; exact HB6.out; rintro e w7 ⟨a2, n2, c2, g2, rfl, s1, s2, hb⟩; have cv7 := CV.out _ _ _ _ _ _ s1; have cv67 := CV.out _ _ _ _ _ _ (HS1.out.below hb); have HB7 := Lib.hid (HB6.out.trans (hb.mono HB6.out.size)); clear s1 s2 hb)
                  )
              all_goals
                go_wp2_with fail
                go_roundw
                case rel => exact ⟨k + 1, m, r, U, by omega, by go_num, rfl, rfl, Lib.hid ((HZ.out.below HB7.out).moreN 1 rfl (Nat.le_succ _)), HK2⟩
                case measure => simp [intOf]; omega
    · obtain rfl : k = N := by omega
      have HL : Hid (U.sent.length < 70368744177663) := by have := HK.out; have := hN.out; show _ < _; omega
      have HN : Hid (k < 70368744177664) := by have := hN.out; show _ < _; omega
      go_wp2_with fail
      refine (ends_c w _ m r k U HA HN HL).mono ?_; rintro e w3 ⟨rfl, hb⟩
      go_wp2_with fail
      go_ret
      exact retB_mk rfl hb
end Go.Proofs.Ytjjmohhkhadadaa
