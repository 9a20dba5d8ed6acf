/- The walk of BusMay. -/
import Derived.Test.YtkmbhhgkajmfjaaBM
namespace Go.Proofs.Ytkmbhhgkajmfjaa
open Go.ChangeShapes Go.WideShapes Go.ChangeAt Go.RowKit
open M (Fp Dj Cw Up Th Grp GrpAt GrpC Cpd jn exT)
set_option linter.unusedVariables false
set_option linter.unusedSimpArgs false
set_option maxRecDepth 20000
theorem dval_no {x : Nat} {z : Int} (D : Dv) (h : okD x z = false) : D.val x z = 0 := by
  unfold okD at h
  unfold Dv.val
  by_cases h1 : dvK x = 1
  · rw [if_pos h1] at h ⊢
    have e : K.kd (farN x 33554432) z = 0 := by simpa using h
    rw [e]; rfl
  rw [if_neg h1] at h ⊢
  by_cases h2 : dvK x = 2
  · rw [if_pos h2] at h ⊢
    have e : P.pk (farN x 201326592) z = 0 := by simpa using h
    rw [e]; rfl
  rw [if_neg h2] at h ⊢
  by_cases h3 : dvK x = 3
  · rw [if_pos h3] at h ⊢
    have e : T.kd (farN x 268435456) z = 0 := by simpa [T.okK] using h
    rw [e]; rfl
  rw [if_neg h3]
theorem val_no (S : Bs) (k : Int) (x : Nat) (z : Int) (h : mayB k x z = false) : S.val k x z = 0 := by
  unfold mayB at h
  unfold Bs.val
  by_cases h0 : k = 0 ∨ k = 3
  · rw [if_pos h0] at h ⊢
    unfold M.readV; rw [h]; rfl
  rw [if_neg h0] at h ⊢
  by_cases h1 : k = 1 ∨ k = 2
  · rw [if_pos h1] at h ⊢
    rw [Bool.or_eq_false_iff] at h
    rw [if_neg (by rw [h.1]; decide)]
    exact dval_no S.D h.2
  rw [if_neg h1]
theorem may_plain {k : Int} {x : Nat} {z : Int} (h : M.hasV x z = true) : (0 ≤ k ∧ k ≤ 3 → mayB k x z = true) ∧ (¬ (0 ≤ k ∧ k ≤ 3) → mayB k x z = false) := by
  unfold mayB
  rw [h, Bool.true_or]
  refine ⟨fun q => ?_, fun q => ?_⟩
  · by_cases h0 : k = 0 ∨ k = 3
    · rw [if_pos h0]
    · rw [if_neg h0, if_pos (by omega)]
  · rw [if_neg (by omega), if_neg (by omega)]
theorem may_bare {k : Int} {x : Nat} {z : Int} (h : M.hasV x z = false) (hm : mayB k x z = true) : k = 1 ∨ k = 2 := by
  unfold mayB at hm
  by_cases h0 : k = 0 ∨ k = 3
  · rw [if_pos h0, h] at hm; cases hm
  rw [if_neg h0] at hm
  by_cases h1 : k = 1 ∨ k = 2
  · exact h1
  rw [if_neg h1] at hm; cases hm
theorem val_plain (S : Bs) {k : Int} {x : Nat} {z : Int} (h : M.hasV x z = true) (q : 0 ≤ k ∧ k ≤ 3) : S.val k x z = M.readV S.F x z := by
  unfold Bs.val
  by_cases h0 : k = 0 ∨ k = 3
  · rw [if_pos h0]
  · rw [if_neg h0, if_pos (by omega), if_pos h]
theorem val_0 (S : Bs) (x : Nat) (z : Int) : S.val 0 x z = M.readV S.F x z := by unfold Bs.val; rw [if_pos (.inl rfl)]
theorem may_0' (x : Nat) (z : Int) : mayB 0 x z = M.hasV x z := by unfold mayB; rw [if_pos (.inl rfl)]
theorem pick1 {R0 W0 : Fp} {w0 w : World} {A B : Th} (h : Grp R0 W0 w0 [A, B] w) : Grp R0 W0 w0 [A] w := h.pick _ id (fun i F hi => by
  match i, hi with
  | 0, hi => exact hi
  | n + 1, hi => simp at hi) (fun i j _ _ h => h)
def X9 (i : Nat) : Nat := if i < 9 then i + 1 else 0
set_option maxHeartbeats 16000000 in
theorem may_core (w : World) (ea : Option Addr) (en ec eg eo : Nat) (L : List Ev) (t z : Int) (x : Nat) (hE : Hid (IsE w ea en ec eg eo L)) (hf : Hid (en < 4398046511104)) (hx : Hid (x < W64)) (hz : Hid ((Lit.int .i64 z).wf = true)) :
    Calls Try.prog 4 #[.slice ea en ec, .int .i64 t, .int .u64 x, .int .i64 z] w (RetB true w) := by
  obtain ⟨r, hr⟩ : ∃ r, t.tmod 40 = r := ⟨_, rfl⟩
  have hr1 : -40 < r ∧ r < 40 := by
    subst hr
    rcases Int.le_total 0 t with h | h
    · rw [Int.tmod_eq_emod_of_nonneg h]; omega
    · have e : t.tmod 40 = -((-t).tmod 40) := by rw [Int.neg_tmod, Int.neg_neg]
      rw [e, Int.tmod_eq_emod_of_nonneg (by omega)]; omega
  have kr : IntKind.i64.wrap r = r := IntWalk.i64_in _ (by omega)
  have HR := Lib.hid hr1
  clear hr1
  go_enter Try.func4, Try.ntmps4
  go_wp2_with fail
  refine (fixed_c w).mono ?_; rintro e w1 ⟨rfl, hb1⟩
  have HB := Lib.hid hb1; clear hb1
  go_wp2_with fail
  have HI : Hid (M.Byt (w1.alloc (Obj.cells #[Value.int IntKind.u8 1, Value.int IntKind.u8 2, Value.int IntKind.u8 3, Value.int IntKind.u8 4, Value.int IntKind.u8 5, Value.int IntKind.u8 6, Value.int IntKind.u8 7, Value.int IntKind.u8 8, Value.int IntKind.u8 9] 5)) (some ⟨w1.heap.size, 0, none⟩) w1.heap.size 0 9 9 X9) :=
    byt_lit (L := []) (fun i hi => by
      match i, hi with
      | 0, _ => rfl
      | 1, _ => rfl
      | 2, _ => rfl
      | 3, _ => rfl
      | 4, _ => rfl
      | 5, _ => rfl
      | 6, _ => rfl
      | 7, _ => rfl
      | 8, _ => rfl
      | n + 9, hi => omega) (fun i => by unfold X9; split <;> omega)
  have HBA : Hid (Below w.heap.size w (w1.alloc (Obj.cells #[Value.int IntKind.u8 1, Value.int IntKind.u8 2, Value.int IntKind.u8 3, Value.int IntKind.u8 4, Value.int IntKind.u8 5, Value.int IntKind.u8 6, Value.int IntKind.u8 7, Value.int IntKind.u8 8, Value.int IntKind.u8 9] 5))) := HB.out.alloc HB.out.size _
  generalize (w1.alloc (Obj.cells #[Value.int IntKind.u8 1, Value.int IntKind.u8 2, Value.int IntKind.u8 3, Value.int IntKind.u8 4, Value.int IntKind.u8 5, Value.int IntKind.u8 6, Value.int IntKind.u8 7, Value.int IntKind.u8 8, Value.int IntKind.u8 9] 5)) = wA at *
  generalize w1.heap.size = gA at *
  have c1 := new_c (some ⟨gA, 0, none⟩) gA 0 9 9 X9 ea en ec eg eo L 0 0 0 0 none 0 0 wA HI (Lib.hid (hE.out.below HBA.out)) hf
  cases ho : okNew 9 L
  · rw [ho] at c1
    refine c1.mono ?_; rintro e w2 ⟨-, h1, hb2⟩
    obtain rfl := h1 rfl
    have HB2 := Lib.hid (HBA.out.trans (hb2.mono HBA.out.size)); clear h1 hb2
    go_wp2_with fail
    go_ret
    exact retB_mk rfl HB2.out
  · rw [ho] at c1
    refine c1.mono ?_; rintro e w2 ⟨h1, -, hb2⟩
    obtain ⟨b, R, W, rfl, q, hn⟩ := h1 rfl
    have HG : Hid (Gr w ([] ++ [eBus b (Bs0 9 X9 L)]) w2) := Lib.hid (((grp_nil _ _ w).below HBA.out).push hb2 q hn)
    have HInv := Lib.hid (inv_new 9 X9 L ho)
    clear h1 q hn hb2 c1 HI HBA HB ho
    generalize Bs0 9 X9 L = S0 at *
    go_wp2_with fail
    go_loopw [11] (fun iv wr => ∃ (k : Nat) (S : Bs), k ≤ 40 ∧ iv = .int .i64 k ∧ Hid (Gr w [eBus b S] wr) ∧ Hid (Inv S k)) (fun iv _ => 40 - (intOf iv).toNat)
    case atStart => exact ⟨0, S0, by omega, rfl, HG, HInv⟩
    case round =>
      clear HG HInv
      obtain ⟨k, S, hk, rfl, HG, HInv⟩ := hrel
      by_cases hlt : (k : Int) < r
      · have kk1 : IntKind.i64.wrap ((k : Int) + 1) = (k : Int) + 1 := IntWalk.i64_in _ (by omega)
        have hk2 : k < 40 := by have := HR.out; omega
        go_wp2_with fail
        refine (tickB HG.out 0 rfl ⟨HInv.out.2.2.1, by have := HInv.out.2.2.2; omega⟩ HInv.out.1).mono ?_; rintro e w4 ⟨rfl, g⟩
        replace HG : Hid (Gr w [eBus b S.tick] w4) := g
        have HI2 : Hid (Inv S.tick (k + 1)) := by
          obtain ⟨i1, i2, i3, i4⟩ := HInv.out
          obtain ⟨t1, t2, t3, t4, t5⟩ := tick_sent S i1
          exact ⟨t1, by rw [t2]; omega, by rw [t4]; omega, by rw [t4]; omega⟩
        clear g HInv
        go_wp2_with fail
        go_roundw
        case rel => exact ⟨k + 1, S.tick, by omega, by go_num, HG, HI2⟩
        case measure => simp only [intOf]; omega
      · have nk : decide ((k : Int) < r) = false := decide_eq_false (by omega)
        have HSN : Hid (S.D.U.sent.length < 70368744177664) := by have := HInv.out.2.1; show _ < _; omega
        go_wp2_with fail
        go_loopw [12] (fun iv wr => ∃ (κ : Int), -1 ≤ κ ∧ κ ≤ 5 ∧ iv = .int .i64 κ ∧ Hid (Gr w [eBus b S] wr)) (fun iv _ => (5 - intOf iv).toNat)
        case atStart => exact ⟨-1, by omega, by omega, rfl, HG⟩
        case round =>
          clear HG HInv
          obtain ⟨κ, hκ1, hκ2, rfl, HG⟩ := hrel
          have HK1 := Lib.hid hκ1
          clear nk hlt
          by_cases hlt : κ ≤ 4
          · have kk1 : IntKind.i64.wrap (κ + 1) = κ + 1 := IntWalk.i64_in _ (by omega)
            have HLT := Lib.hid hlt
            have HRND : Hid (∀ w9, Gr w [eBus b S] w9 → ∃ κ', -1 ≤ κ' ∧ κ' ≤ 5 ∧ Value.int .i64 (κ + 1) = .int .i64 κ' ∧ Hid (Gr w [eBus b S] w9)) := fun w9 g => ⟨κ + 1, by omega, by omega, rfl, g⟩
            cases hp : M.hasV x z
            · cases hm : mayB κ x z
              · have m1 := mayQ HG.out 0 rfl κ x z hx.out hz.out
                rw [hm] at m1
                go_wp2_with fail
                refine m1.mono ?_; rintro e w4 ⟨rfl, hb⟩
                replace HG : Hid (Gr w [eBus b S] w4) := Lib.hid (HG.out.below hb)
                clear m1 hb
                have p1 := plainQ HG.out 0 rfl x z hx.out
                rw [hp] at p1
                go_wp2_with fail
                refine p1.mono ?_; rintro e w5 ⟨rfl, hb⟩
                replace HG : Hid (Gr w [eBus b S] w5) := Lib.hid (HG.out.below hb)
                clear p1 hb
                go_wp2_with fail
                refine (copyB HG.out 0 rfl).mono ?_; rintro e w6 ⟨o, rfl, g, -⟩
                have r1 := readB g 1 rfl κ x z hx.out hz.out
                rw [hm, val_no S κ x z hm] at r1
                clear g
                go_wp2_with fail
                refine r1.mono ?_; rintro e w7 ⟨rfl, g⟩
                replace HG : Hid (Gr w [eBus b S] w7) := Lib.hid (pick1 g)
                clear g r1 hp hm
                go_wp2_with fail
                go_roundw
                case rel => exact HRND.out _ HG.out
                case measure => simp only [intOf]; omega
              · rcases may_bare hp hm with rfl | rfl
                · have m1 := mayQ HG.out 0 rfl 1 x z hx.out hz.out
                  rw [hm] at m1
                  go_wp2_with fail
                  refine m1.mono ?_; rintro e w4 ⟨rfl, hb⟩
                  replace HG : Hid (Gr w [eBus b S] w4) := Lib.hid (HG.out.below hb)
                  clear m1 hb
                  have p1 := plainQ HG.out 0 rfl x z hx.out
                  rw [hp] at p1
                  go_wp2_with fail
                  refine p1.mono ?_; rintro e w5 ⟨rfl, hb⟩
                  replace HG : Hid (Gr w [eBus b S] w5) := Lib.hid (HG.out.below hb)
                  clear p1 hb
                  go_wp2_with fail
                  refine (copyB HG.out 0 rfl).mono ?_; rintro e w6 ⟨o, rfl, g, -⟩
                  have r1 := readB g 1 rfl 1 x z hx.out hz.out
                  rw [hm] at r1
                  clear g
                  go_wp2_with fail
                  refine r1.mono ?_; rintro e w7 ⟨rfl, g⟩
                  replace HG : Hid (Gr w [eBus b S] w7) := Lib.hid (pick1 g)
                  clear g r1 hp hm
                  go_wp2_with fail
                  go_roundw
                  case rel => exact HRND.out _ HG.out
                  case measure => simp only [intOf]; omega
                · have m1 := mayQ HG.out 0 rfl 2 x z hx.out hz.out
                  rw [hm] at m1
                  go_wp2_with fail
                  refine m1.mono ?_; rintro e w4 ⟨rfl, hb⟩
                  replace HG : Hid (Gr w [eBus b S] w4) := Lib.hid (HG.out.below hb)
                  clear m1 hb
                  have p1 := plainQ HG.out 0 rfl x z hx.out
                  rw [hp] at p1
                  go_wp2_with fail
                  refine p1.mono ?_; rintro e w5 ⟨rfl, hb⟩
                  replace HG : Hid (Gr w [eBus b S] w5) := Lib.hid (HG.out.below hb)
                  clear p1 hb
                  go_wp2_with fail
                  refine (copyB HG.out 0 rfl).mono ?_; rintro e w6 ⟨o, rfl, g, -⟩
                  have r1 := readB g 1 rfl 2 x z hx.out hz.out
                  rw [hm] at r1
                  clear g
                  go_wp2_with fail
                  refine r1.mono ?_; rintro e w7 ⟨rfl, g⟩
                  replace HG : Hid (Gr w [eBus b S] w7) := Lib.hid (pick1 g)
                  clear g r1 hp hm
                  go_wp2_with fail
                  go_roundw
                  case rel => exact HRND.out _ HG.out
                  case measure => simp only [intOf]; omega
            · by_cases hq : 0 ≤ κ ∧ κ ≤ 3
              · have hm := (may_plain (k := κ) hp).1 hq
                obtain ⟨hq1, hq2⟩ := hq
                have m1 := mayQ HG.out 0 rfl κ x z hx.out hz.out
                rw [hm] at m1
                go_wp2_with fail
                refine m1.mono ?_; rintro e w4 ⟨rfl, hb⟩
                replace HG : Hid (Gr w [eBus b S] w4) := Lib.hid (HG.out.below hb)
                clear m1 hb
                have p1 := plainQ HG.out 0 rfl x z hx.out
                rw [hp] at p1
                go_wp2_with fail
                refine p1.mono ?_; rintro e w5 ⟨rfl, hb⟩
                replace HG : Hid (Gr w [eBus b S] w5) := Lib.hid (HG.out.below hb)
                clear p1 hb
                go_wp2_with fail
                refine (copyB HG.out 0 rfl).mono ?_; rintro e w6 ⟨o, rfl, g, -⟩
                have r1 := readB g 1 rfl κ x z hx.out hz.out
                obtain ⟨rv, hrv⟩ : ∃ rv, M.readV S.F x z = rv := ⟨_, rfl⟩
                rw [hm, val_plain S hp ⟨hq1, hq2⟩, hrv] at r1
                clear g
                go_wp2_with fail
                refine r1.mono ?_; rintro e w7 ⟨rfl, g⟩
                replace HG : Hid (Gr w [eBus b S] w7) := Lib.hid (pick1 g)
                clear g r1
                have r2 := readB HG.out 0 rfl 0 x z hx.out hz.out
                rw [may_0', hp, val_0, hrv, rd_0 S 0 (by decide)] at r2
                clear hrv hp hm
                go_wp2_with fail
                refine r2.mono ?_; rintro e w8 ⟨rfl, g⟩
                replace HG : Hid (Gr w [eBus b S] w8) := g
                clear g r2
                go_wp2_with fail
                go_roundw
                case rel => exact HRND.out _ HG.out
                case measure => simp only [intOf]; omega
              · have hm := (may_plain (k := κ) hp).2 hq
                have hq3 : κ < 0 ∨ (0 ≤ κ ∧ 3 < κ) := by omega
                rcases hq3 with hq1 | ⟨hq1, hq2⟩
                all_goals
                  have m1 := mayQ HG.out 0 rfl κ x z hx.out hz.out
                  rw [hm] at m1
                  go_wp2_with fail
                  refine m1.mono ?_; rintro e w4 ⟨rfl, hb⟩
                  replace HG : Hid (Gr w [eBus b S] w4) := Lib.hid (HG.out.below hb)
                  clear m1 hb
                  have p1 := plainQ HG.out 0 rfl x z hx.out
                  rw [hp] at p1
                  go_wp2_with fail
                  refine p1.mono ?_; rintro e w5 ⟨rfl, hb⟩
                  replace HG : Hid (Gr w [eBus b S] w5) := Lib.hid (HG.out.below hb)
                  clear p1 hb
                  go_wp2_with fail
                  refine (copyB HG.out 0 rfl).mono ?_; rintro e w6 ⟨o, rfl, g, -⟩
                  have r1 := readB g 1 rfl κ x z hx.out hz.out
                  rw [hm, val_no S κ x z hm] at r1
                  clear g
                  go_wp2_with fail
                  refine r1.mono ?_; rintro e w7 ⟨rfl, g⟩
                  replace HG : Hid (Gr w [eBus b S] w7) := Lib.hid (pick1 g)
                  clear g r1
                  have r2 := readB HG.out 0 rfl 0 x z hx.out hz.out
                  rw [may_0', hp, rd_0 S 0 (by decide)] at r2
                  clear hp hm
                  go_wp2_with fail
                  refine r2.mono ?_; rintro e w8 ⟨rfl, g⟩
                  replace HG : Hid (Gr w [eBus b S] w8) := g
                  clear g r2
                  go_wp2_with fail
                  go_roundw
                  case rel => exact HRND.out _ HG.out
                  case measure => simp only [intOf]; omega
          · have nk : decide (κ ≤ 4) = false := decide_eq_false hlt
            go_wp2_with fail
            refine (copyB HG.out 0 rfl).mono ?_; rintro e w6 ⟨o, rfl, g, -⟩
            have r1 := writeB g 1 rfl x 5 z hx.out hz.out (by decide) HSN.out
            clear g
            obtain ⟨m, hm⟩ : ∃ m, mayB 2 x z = m := ⟨_, rfl⟩
            rw [hm] at r1
            go_wp2_with fail
            refine r1.mono ?_; rintro e w7 ⟨rfl, g⟩
            replace HG : Hid (Gr w [eBus b S] w7) := Lib.hid (pick1 g)
            clear g r1
            have m1 := mayQ HG.out 0 rfl 2 x z hx.out hz.out
            rw [hm] at m1
            clear hm
            go_wp2_with fail
            refine m1.mono ?_; rintro e w8 ⟨rfl, hb⟩
            replace HG : Hid (Gr w [eBus b S] w8) := Lib.hid (HG.out.below hb)
            clear m1 hb
            cases m
            all_goals
              go_wp2_with fail
              go_ret
              exact retB_mk rfl (gr_out HG.out)
end Go.Proofs.Ytkmbhhgkajmfjaa
