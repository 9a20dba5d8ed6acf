/- The walk of BusTimes. -/
import Derived.Test.YtkmbhhgkajmfjaaBM
import Derived.Test.YtkmbhhgkajmfjaaQH
import Derived.Deep.CutBlock
namespace Go.Proofs.Ytkmbhhgkajmfjaa
open Go.ChangeShapes Go.WideShapes Go.ChangeAt Go.RowKit Go.Sort
open M (Fp Dj Cw Up Th Grp GrpAt GrpC Cpd jn exT)
set_option linter.unusedVariables false
set_option linter.unusedSimpArgs false
set_option maxRecDepth 20000
/-- The byte at 0x80000003 of an image. -/
def img3 (n : Nat) (X : Nat → Nat) : Nat := if 3 < n then X 3 else 0
def tst (k : Int) (x : Nat) : Bool := decide (k < 3) && (x / 16777216 == 128 || (x / 16777216 == 16 || x / 16777216 == 12))
set_option maxHeartbeats 16000000 in
theorem times_core (w : World) (ia : Option Addr) (ig io n ic : Nat) (X : Nat → Nat) (ea : Option Addr) (en ec eg eo : Nat) (L : List Ev) (sa : Option Addr) (b0 o0 N cap : Nat) (K Z : Nat → Int) (A V : Nat → Nat)
    (hI : Hid (M.Byt w ia ig io n ic X)) (hE : Hid (IsE w ea en ec eg eo L)) (hf : Hid (en < 4398046511104)) (hS : Hid (Steps w b0 o0 N K Z A V)) (hsa : Hid (0 < N → sa = some ⟨b0, o0, none⟩ ∧ b0 < w.heap.size)) (hN : Hid (N < 4398046511104)) :
    Calls Try.prog 5 #[.slice ia n ic, .slice ea en ec, .slice sa N cap] w (RetB true w) := by
  go_enter Try.func5, Try.ntmps5
  go_wp2_with fail
  refine (fixed_c w).mono ?_; rintro e w1 ⟨rfl, hb1⟩
  have HB := Lib.hid hb1; clear hb1
  have c1 := new_c ia ig io n ic X ea en ec eg eo L 0 0 0 0 none 0 0 w1 (Lib.hid (hI.out.below HB.out)) (Lib.hid (hE.out.below HB.out)) hf
  cases ho : okNew n L
  · rw [ho] at c1
    go_wp2_with fail
    refine c1.mono ?_; rintro e w2 ⟨-, h1, hb2⟩
    obtain rfl := h1 rfl
    have HB2 := Lib.hid (HB.out.trans (hb2.mono HB.out.size)); clear h1 hb2
    have c2 := new_c ia ig io n ic X ea en ec eg eo L 4 1 2 3 none 0 0 w2 (Lib.hid (hI.out.below HB2.out)) (Lib.hid (hE.out.below HB2.out)) hf
    rw [ho] at c2
    go_wp2_with fail
    refine c2.mono ?_; rintro e w3 ⟨-, h1, hb3⟩
    obtain rfl := h1 rfl
    have HB3 := Lib.hid (HB2.out.trans (hb3.mono HB2.out.size)); clear h1 hb3
    go_wp2_with fail
    go_ret
    exact retB_mk rfl HB3.out
  · rw [ho] at c1
    go_wp2_with fail
    refine c1.mono ?_; rintro e w2 ⟨h1, -, hb2⟩
    obtain ⟨b, R, W, rfl, q, hn⟩ := h1 rfl
    have HG2 : Hid (Gr w ([] ++ [eBus b (Bs0 n X L)]) w2) := Lib.hid (((grp_nil _ _ w).below HB.out).push hb2 q hn)
    have HB2 := Lib.hid (HB.out.trans (hb2.mono HB.out.size)); clear h1 q hn hb2
    have c2 := new_c ia ig io n ic X ea en ec eg eo L 4 1 2 3 none 0 0 w2 (Lib.hid (hI.out.below HB2.out)) (Lib.hid (hE.out.below HB2.out)) hf
    rw [ho] at c2
    go_wp2_with fail
    refine c2.mono ?_; rintro e w3 ⟨h1, -, hb3⟩
    obtain ⟨c, R, W, rfl, q, hn⟩ := h1 rfl
    have HG : Hid (Gr w [eBus b (Bs0 n X L), eBus c (Bs0 n X L)] w3) := HG2.out.push hb3 q hn
    have HB3 := Lib.hid (HB2.out.trans (hb3.mono HB2.out.size)); clear h1 q hn hb3 HG2 c1 c2
    have HInv := Lib.hid (inv_new n X L ho)
    have HON := Lib.hid ho
    clear ho
    have hbyt := hI.out.below HB3.out
    have HF0 : Hid (img3 n X = (Bs0 n X L).F 2147483651) := by
      show _ = _
      have hn : n ≤ 1048576 := by
        have h := HON.out
        unfold okNew at h
        rw [Bool.and_eq_true] at h
        exact of_decide_eq_true h.1
      show img3 n X = M.layI (fun _ => 0) n X 2147483651
      unfold M.layI img3
      rw [if_pos hn]
      unfold M.layF
      by_cases h3 : 3 < n
      · rw [if_pos h3, if_pos (by omega)]
      · rw [if_neg h3, if_neg (by omega)]
    have HXB := Lib.hid hI.out.2.2.2
    go_upto_if 53 with fail
    go_cut [12] from 23 to 211 (fun wv wx => wv = .int .u8 (img3 n X : Nat) ∧ Hid (Gr w [eBus b (Bs0 n X L), eBus c (Bs0 n X L)] wx))
    case first =>
      by_cases h3 : 3 < n
      · have h3' : (3 : Int) < n := by omega
        obtain ⟨hia, -⟩ := hbyt.1 (by omega)
        subst hia
        have hc3 := hbyt.2.2.1 3 h3
        have HI3 : Hid (img3 n X = X 3) := by show _ = _; unfold img3; rw [if_pos h3]
        go_wp2_with fail
        go_meet
        case rel => exact ⟨by rw [HI3.out], HG⟩
      · have h3' : ¬ (3 : Int) < n := by omega
        have h3'' : decide ((3 : Int) < n) = false := decide_eq_false h3'
        have HI3 : Hid (img3 n X = 0) := by show _ = _; unfold img3; rw [if_neg h3]
        go_wp2_with fail
        go_meet
        case rel => exact ⟨by rw [HI3.out]; rfl, HG⟩
    case rest =>
      obtain ⟨rfl, HG⟩ := hcut
      rw [HF0.out]
      clear HF0 HXB hbyt HB3 HB2 HB
      have hgen : Hid (Inv (Bs0 n X L) 0 ∧ (Bs0 n X L).D.t = 0 ∧ (Bs0 n X L).cyc = -1) := ⟨HInv.out, rfl, rfl⟩
      generalize Bs0 n X L = S0 at *
      go_wp2_with fail
      go_loopw [11, 12, 13] (fun nv wv iv wr => ∃ (k q : Nat) (S : Bs), k ≤ N ∧ iv = .int .i64 k ∧ nv = .int .u64 q ∧ wv = .int .u8 (S.F 2147483651 : Nat) ∧ q ≤ k ∧ Hid (Gr w [eBus b S, eBus c S] wr) ∧ Hid (Inv S k) ∧ Hid (S.D.t = q) ∧ Hid (S.cyc = (q : Int) - 1)) (fun _ _ iv _ => N - (intOf iv).toNat)
      case atStart => exact ⟨0, 0, S0, Nat.zero_le _, rfl, rfl, rfl, Nat.le_refl _, HG, hgen.out.1, hgen.out.2.1, by show _ = _; rw [hgen.out.2.2]; rfl⟩
      case round =>
        clear HG hgen HInv
        obtain ⟨k, q, S, hk, rfl, rfl, rfl, hqk, HG, HInv, HT, HC⟩ := hrel
        by_cases hlt : k < N
        · have hlt' : (k : Int) < N := by omega
          obtain ⟨rfl, hbl⟩ := hsa.out (by omega)
          obtain ⟨y0, y1, y2, y3, lx, lv, lz⟩ := (steps_kept hS.out (gr_out HG.out) hbl) k hlt
          have hXb : ¬ b0 = wr.heap.size := by have := (gr_out HG.out).size; omega
          obtain ⟨xk, hxk⟩ : ∃ x, K k = x := ⟨_, rfl⟩
          obtain ⟨xa, hxa⟩ : ∃ x, A k = x := ⟨_, rfl⟩
          obtain ⟨xz, hxz⟩ : ∃ x, Z k = x := ⟨_, rfl⟩
          obtain ⟨xv, hxv⟩ : ∃ x, V k = x := ⟨_, rfl⟩
          rw [hxk] at y0; rw [hxa] at y1 lx; rw [hxz] at y2 lz; rw [hxv] at y3 lv
          clear hxk hxa hxz hxv
          replace lv : Hid (xv < W64) := lv
          replace lx : Hid (xa < W64) := lx
          replace lz := Lib.hid lz
          have kk1 : IntKind.i64.wrap ((k : Int) + 1) = (k : Int) + 1 := by have := hN.out; exact IntWalk.i64_in _ (by omega)
          go_upto_region 17 with fail
          have HX : Hid (Gr w [eBus b S, eBus c S, eX wr.heap.size xk xz xa xv] (wr.alloc (Obj.cells #[.int .i64 xk, .int .u64 (xa : Nat), .int .i64 xz, .int .u64 (xv : Nat)] 44))) := newX HG.out xk xz xa xv _
          clear HG y0 y1 y2 y3
          generalize wr.alloc (Obj.cells #[Value.int .i64 xk, Value.int .u64 (xa : Nat), Value.int .i64 xz, Value.int .u64 (xv : Nat)] 44) = wx at *
          generalize wr.heap.size = x0 at *
          obtain ⟨hxs, z0, z1, z2, z3⟩ := isX HX.out 2 rfl
          go_cut [87] from 67 to 86 (fun s w9 => s = .bool (tst xk xa) ∧ w9 = wx)
          case first =>
            as_aux_lemma =>
              by_cases t3 : xk < 3
              · have t3' : decide (xk < 3) = true := decide_eq_true t3
                by_cases t1 : xa / 16777216 = 128
                · have u1 : ((xa : Int) / 16777216 == 128) = true := by rw [beq_iff_eq]; omega
                  have HTs : Hid (tst xk xa = true) := by show _ = _; unfold tst; simp [t3, t1]
                  go_wp2_with fail
                  go_meet
                  case rel => exact ⟨by rw [HTs.out], rfl⟩
                · have u1 : ((xa : Int) / 16777216 == 128) = false := by rw [beq_eq_false_iff_ne]; omega
                  by_cases t2 : xa / 16777216 = 16
                  · have u2 : ((xa : Int) / 16777216 == 16) = true := by rw [beq_iff_eq]; omega
                    have HTs : Hid (tst xk xa = true) := by show _ = _; unfold tst; simp [t3, t2]
                    go_wp2_with fail
                    go_meet
                    case rel => exact ⟨by rw [HTs.out], rfl⟩
                  · have u2 : ((xa : Int) / 16777216 == 16) = false := by rw [beq_eq_false_iff_ne]; omega
                    by_cases t4 : xa / 16777216 = 12
                    · have u4 : ((xa : Int) / 16777216 == 12) = true := by rw [beq_iff_eq]; omega
                      have HTs : Hid (tst xk xa = true) := by show _ = _; unfold tst; simp [t3, t4]
                      go_wp2_with fail
                      go_meet
                      case rel => exact ⟨by rw [HTs.out], rfl⟩
                    · have u4 : ((xa : Int) / 16777216 == 12) = false := by rw [beq_eq_false_iff_ne]; omega
                      have HTs : Hid (tst xk xa = false) := by show _ = _; unfold tst; simp [t1, t2, t4]
                      go_wp2_with fail
                      go_meet
                      case rel => exact ⟨by rw [HTs.out], rfl⟩
              · have t3' : decide (xk < 3) = false := decide_eq_false t3
                have HTs : Hid (tst xk xa = false) := by show _ = _; unfold tst; simp [t3]
                go_wp2_with fail
                go_meet
                case rel => exact ⟨by rw [HTs.out], rfl⟩
          case rest =>
            obtain ⟨rfl, rfl⟩ := hcut
            go_upto_if 87 with fail
            go_cut [11, 12, 15, 16, 17, 18, 19, 20] from 87 to 211 (fun nv wv _ _ _ _ _ _ w9 => ∃ (q' : Nat) (S' : Bs), nv = .int .u64 q' ∧ wv = .int .u8 (S'.F 2147483651 : Nat) ∧ q' ≤ k + 1 ∧ Hid (Gr w [eBus b S', eBus c S'] w9) ∧ Hid (Inv S' (k + 1)) ∧ Hid (S'.D.t = q') ∧ Hid (S'.cyc = (q' : Int) - 1))
            case first =>
              as_aux_lemma =>
                cases ht : tst xk xa
                · have hc9 : -1 ≤ S.cyc ∧ S.cyc < 4611686018427387904 := ⟨HInv.out.2.2.1, by have := HInv.out.2.2.2; have := hN.out; omega⟩
                  have hb9 := tickB HX.out 0 rfl hc9 HInv.out.1
                  have HI2 : Hid (Inv S.tick (k + 1)) := by
                    obtain ⟨t1, t2, t3, t4, t5⟩ := tick_sent S HInv.out.1
                    exact ⟨t1, by rw [t2]; exact Nat.le_succ_of_le HInv.out.2.1, by rw [t4]; have := hc9.1; omega, by rw [t4]; have := HInv.out.2.2.2; omega⟩
                  have HT2 : Hid (S.tick.D.t = q + 1 ∧ S.tick.cyc = ((q + 1 : Nat) : Int) - 1 ∧ S.tick.F = S.F) := by
                    obtain ⟨t1, t2, t3, t4, t5⟩ := tick_sent S HInv.out.1
                    refine ⟨by rw [t3, HT.out]; have := hN.out; show (q + 1) % 18446744073709551616 = _; omega, by rw [t4, HC.out]; omega, t5⟩
                  have kq : IntKind.u64.wrap ((q : Int) + 1) = (q : Int) + 1 := by rw [IntKind.wrap_u64]; have := hN.out; omega
                  have HC9 := Lib.hid hc9
                  clear hc9 ht
                  go_wp2_with fail
                  refine hb9.mono ?_; rintro e w4 ⟨rfl, g⟩
                  have hc2 := tickB (b := c) (S := S) g 1 rfl HC9.out HInv.out.1
                  clear hb9 g z0 z1 z2 z3 hxs
                  go_wp2_with fail
                  refine hc2.mono ?_; rintro e w5 ⟨rfl, g⟩
                  have G5 : Hid (Gr w [eBus b S.tick, eBus c S.tick] w5) := pick2 g
                  clear g hc2
                  go_wp2_with fail
                  go_meet
                  case rel => exact ⟨q + 1, S.tick, by go_num, by rw [HT2.out.2.2], by omega, G5, HI2, HT2.out.1, HT2.out.2.1⟩
                · have hsn : S.D.U.sent.length < 70368744177664 := by have := HInv.out.2.1; have := hN.out; omega
                  obtain ⟨S1, hS1⟩ : ∃ S1, S.wr xa xz xv = S1 := ⟨_, rfl⟩
                  obtain ⟨S2, hS2⟩ : ∃ S2, S1.rd 1 xa xz = S2 := ⟨_, rfl⟩
                  have HI2 : Hid (Inv S2 (k + 1)) := by
                    obtain ⟨r1, r2, r3, r4, r5⟩ := rd_inv S1 1 xa xz
                    obtain ⟨u1, u2, u3⟩ := wr_inv S xa xv xz
                    rw [hS1] at u1 u2 u3
                    rw [hS2] at r1 r2 r3
                    exact ⟨by rw [r1, u1]; exact HInv.out.1, by rw [r3]; have := HInv.out.2.1; omega, by rw [r2, u2]; exact HInv.out.2.2.1, by rw [r2, u2]; have := HInv.out.2.2.2; omega⟩
                  have HT2 : Hid (S2.D.t = q ∧ S2.cyc = (q : Int) - 1) := by
                    obtain ⟨r1, r2, r3, r4, r5⟩ := rd_inv S1 1 xa xz
                    obtain ⟨u1, u2, u3⟩ := wr_inv S xa xv xz
                    have u4 := wr_t S xa xv xz (tst_dv ht)
                    rw [hS1] at u2 u4
                    rw [hS2] at r2 r4
                    exact ⟨by rw [r4, u4]; exact HT.out, by rw [r2, u2]; exact HC.out⟩
                  have HF2 := wr_F3 S xa xv xz
                  rw [hS1] at HF2
                  have HR5 : S2.F = S1.F := by rw [← hS2]; exact (rd_inv S1 1 xa xz).2.2.2.2
                  rw [← HR5] at HF2
                  replace HF2 := Lib.hid HF2
                  have hb1 := writeB HX.out 0 rfl xa xv xz lx.out lz.out lv.out hsn
                  rw [hS1] at hb1
                  have hb2 := fun w9 (g : Gr w [eBus b S1, eBus c S, eX x0 xk xz xa xv] w9) => writeB (b := c) g 1 rfl xa xv xz lx.out lz.out lv.out hsn
                  have hb3 := fun w9 (g : Gr w [eBus b S1, eBus c S1, eX x0 xk xz xa xv] w9) => readB (b := b) g 0 rfl 1 xa xz lx.out lz.out
                  have hb4 := fun w9 (g : Gr w [eBus b S2, eBus c S1, eX x0 xk xz xa xv] w9) => readB (b := c) g 1 rfl 1 xa xz lx.out lz.out
                  rw [hS1] at hb2
                  rw [hS2] at hb3 hb4
                  have HX9 : Hid (∀ dd : Nat, M.hasV xa xz = true → 2147483648 ≤ xa ∧ 1 ≤ xz ∧ xz ≤ 8) := fun _ h => by have := (hasV_iff xa xz).1 h; omega
                  have HMA : Hid (mayB 2 xa xz = true → 2147483640 ≤ xa → M.hasV xa xz = true) := fun h1 h2 => by
                    rw [may2, Bool.or_eq_true] at h1
                    rcases h1 with h1 | h1
                    · exact h1
                    · have := okD_low h1; omega
                  clear hS1 hS2 HR5 hsn ht
                  generalize S1.val 1 xa xz = v9 at *
                  generalize mayB 1 xa xz = p9 at *
                  generalize mayB 2 xa xz = ma at *
                  replace hb2 := Lib.hid hb2; replace hb3 := Lib.hid hb3; replace hb4 := Lib.hid hb4
                  go_wp2_with fail
                  refine hb1.mono ?_; rintro e w4 ⟨rfl, g⟩
                  replace HX : Hid (Gr w [eBus b S1, eBus c S, eX x0 xk xz xa xv] w4) := g
                  clear g hb1 z0 z1 z2 z3 hxs
                  obtain ⟨hxs, z0, z1, z2, z3⟩ := isX HX.out 2 rfl
                  go_wp2_with fail
                  refine (hb2.out _ HX.out).mono ?_; rintro e w5 ⟨rfl, g⟩
                  replace HX : Hid (Gr w [eBus b S1, eBus c S1, eX x0 xk xz xa xv] w5) := g
                  clear g hb2 z0 z1 z2 z3 hxs
                  obtain ⟨hxs, z0, z1, z2, z3⟩ := isX HX.out 2 rfl
                  go_wp2_with fail
                  refine (hb3.out _ HX.out).mono ?_; rintro e w6 ⟨rfl, g⟩
                  replace HX : Hid (Gr w [eBus b S2, eBus c S1, eX x0 xk xz xa xv] w6) := g
                  clear g hb3 z0 z1 z2 z3 hxs
                  obtain ⟨hxs, z0, z1, z2, z3⟩ := isX HX.out 2 rfl
                  go_wp2_with fail
                  refine (hb4.out _ HX.out).mono ?_; rintro e w7 ⟨rfl, g⟩
                  replace HX : Hid (Gr w [eBus b S2, eBus c S2, eX x0 xk xz xa xv] w7) := g
                  clear g hb4 z0 z1 z2 z3 hxs
                  obtain ⟨hxs, z0, z1, z2, z3⟩ := isX HX.out 2 rfl
                  cases ma
                  · as_aux_lemma =>
                      have HFF : Hid (S2.F 2147483651 = S.F 2147483651) := HF2.out.2 (fun h => Bool.noConfusion h.1)
                      go_wp2_with fail
                      go_meet
                      case rel => exact ⟨q, S2, rfl, by rw [HFF.out], by omega, pick2 HX.out, HI2, HT2.out.1, HT2.out.2⟩
                  · by_cases e1 : xa ≤ 2147483651
                    · have e1' : (xa : Int) ≤ 2147483651 := by omega
                      by_cases e2 : 2147483640 ≤ xa
                      · have e2' : (2147483640 : Int) ≤ xa := by omega
                        obtain ⟨hl8, hz1, hz8⟩ := HX9.out 0 (HMA.out rfl e2)
                        have hzw : IntKind.u64.wrap xz = xz := by rw [IntKind.wrap_u64]; omega
                        by_cases e3 : ((2147483651 - xa : Nat) : Int) < xz
                        · have HV := Lib.hid (HF2.out.1 ⟨rfl, e1, e2, e3⟩).2
                          have HSB := Lib.hid (shr_byte xv)
                          have hx4 : xa = 2147483651 ∨ xa = 2147483650 ∨ xa = 2147483649 ∨ xa = 2147483648 := by omega
                          clear e1 e2 HF2 HMA HX9 hl8
                          rcases hx4 with rfl | rfl | rfl | rfl
                          · as_aux_lemma =>
                              have e3' : (0 : Int) < xz := by omega
                              go_wp2_with fail
                              go_meet
                              case rel => exact ⟨q, S2, rfl, by rw [HV.out]; exact congrArg (Value.int .u8) (by have := HSB.out.1; first | (simp; done) | (simpa using this)), by omega, pick2 HX.out, HI2, HT2.out.1, HT2.out.2⟩
                          · as_aux_lemma =>
                              have e3' : (1 : Int) < xz := by omega
                              go_wp2_with fail
                              go_meet
                              case rel => exact ⟨q, S2, rfl, by rw [HV.out]; exact congrArg (Value.int .u8) (by have := HSB.out.2.1; first | (simp; done) | (simpa using this)), by omega, pick2 HX.out, HI2, HT2.out.1, HT2.out.2⟩
                          · as_aux_lemma =>
                              have e3' : (2 : Int) < xz := by omega
                              go_wp2_with fail
                              go_meet
                              case rel => exact ⟨q, S2, rfl, by rw [HV.out]; exact congrArg (Value.int .u8) (by have := HSB.out.2.2.1; first | (simp; done) | (simpa using this)), by omega, pick2 HX.out, HI2, HT2.out.1, HT2.out.2⟩
                          · as_aux_lemma =>
                              have e3' : (3 : Int) < xz := by omega
                              go_wp2_with fail
                              go_meet
                              case rel => exact ⟨q, S2, rfl, by rw [HV.out]; exact congrArg (Value.int .u8) (by have := HSB.out.2.2.2; first | (simp; done) | (simpa using this)), by omega, pick2 HX.out, HI2, HT2.out.1, HT2.out.2⟩
                        · as_aux_lemma =>
                            have es : IntKind.u64.wrap (2147483651 - (xa : Int)) = 2147483651 - (xa : Int) := by rw [IntKind.wrap_u64]; omega
                            have e3' : decide (2147483651 - (xa : Int) < xz) = false := decide_eq_false (by omega)
                            have e3'' : ¬ (2147483651 - (xa : Int) < xz) := by omega
                            have HFF : Hid (S2.F 2147483651 = S.F 2147483651) := HF2.out.2 (fun h => e3 h.2.2.2)
                            go_wp2_with fail
                            go_meet
                            case rel => exact ⟨q, S2, rfl, by rw [HFF.out], by omega, pick2 HX.out, HI2, HT2.out.1, HT2.out.2⟩
                      · as_aux_lemma =>
                          have e2' : decide ((2147483640 : Int) ≤ xa) = false := decide_eq_false (by omega)
                          have e2'' : ¬ (2147483640 : Int) ≤ xa := by omega
                          have HFF : Hid (S2.F 2147483651 = S.F 2147483651) := HF2.out.2 (fun h => e2 h.2.2.1)
                          go_wp2_with fail
                          go_meet
                          case rel => exact ⟨q, S2, rfl, by rw [HFF.out], by omega, pick2 HX.out, HI2, HT2.out.1, HT2.out.2⟩
                    · as_aux_lemma =>
                        have e1' : decide ((xa : Int) ≤ 2147483651) = false := decide_eq_false (by omega)
                        have e1'' : ¬ (xa : Int) ≤ 2147483651 := by omega
                        have HFF : Hid (S2.F 2147483651 = S.F 2147483651) := HF2.out.2 (fun h => e1 h.2.1)
                        go_wp2_with fail
                        go_meet
                        case rel => exact ⟨q, S2, rfl, by rw [HFF.out], by omega, pick2 HX.out, HI2, HT2.out.1, HT2.out.2⟩
            case rest =>
              obtain ⟨q', S', rfl, rfl, hq', HG, HI', HT', HC'⟩ := hcut
              clear HX hxs z0 z1 z2 z3 HInv HT HC
              have hr := readB HG.out 0 rfl 1 2147483651 1 (by decide) wf_lits.1
              rw [val_y, may_y, rd_y] at hr
              go_wp2_with fail
              refine hr.mono ?_; rintro e w4 ⟨rfl, g⟩
              replace HG : Hid (Gr w [eBus b S', eBus c S'] w4) := g
              clear g hr
              have HLs : Hid (S'.D.U.sent.length < 70368744177664) := by have := HI'.out.2.1; have := hN.out; show _ < _; omega
              obtain ⟨SB, hSB⟩ : ∃ SB, T.strB S'.D.U.sent = SB := ⟨_, rfl⟩
              have CV : Hid (∀ w9 a n c g o, T.SlA w9 a n c g o S'.D.U.sent → (convert 27 9 (.slice a n c)).run Try.prog w9 = .ok (.string SB) w9) := fun w9 a n c g o h => by rw [← hSB]; exact T.conv_b h
              obtain ⟨pd, hpd⟩ : ∃ pd, S'.pend = pd := ⟨_, rfl⟩
              have QT : Hid (∀ w9, Gr w [eBus b S', eBus c S'] w9 → Calls Try.prog 15 #[.pointer (some ⟨b, 0, none⟩)] w9 (fun e w' => e = .returned (.int .u64 (q' : Nat)) ∧ Below w9.heap.size w9 w')) := fun w9 g => by have := timeQ g 0 rfl; rw [HT'.out] at this; exact this
              have QC : Hid (∀ w9, Gr w [eBus b S', eBus c S'] w9 → Calls Try.prog 16 #[.pointer (some ⟨b, 0, none⟩)] w9 (fun e w' => e = .returned (.int .i64 ((q' : Int) - 1)) ∧ Below w9.heap.size w9 w')) := fun w9 g => by have := cycleQ g 0 rfl; rw [HC'.out] at this; exact this
              have QP : Hid (∀ w9, Gr w [eBus b S', eBus c S'] w9 → Calls Try.prog 17 #[.pointer (some ⟨b, 0, none⟩)] w9 (fun e w' => e = .returned (.int .u64 (pd : Nat)) ∧ Below w9.heap.size w9 w')) := fun w9 g => by have := pendQ g 0 rfl; rw [hpd] at this; exact this
              have QP2 : Hid (∀ w9, Gr w [eBus b S', eBus c S'] w9 → Calls Try.prog 17 #[.pointer (some ⟨c, 0, none⟩)] w9 (fun e w' => e = .returned (.int .u64 (pd : Nat)) ∧ Below w9.heap.size w9 w')) := fun w9 g => by have := pendQ g 1 rfl; rw [hpd] at this; exact this
              have QS : Hid (∀ w9, Gr w [eBus b S', eBus c S'] w9 → Calls Try.prog 18 #[.pointer (some ⟨b, 0, none⟩)] w9 (T.RetSl S'.D.U.sent w9)) := fun w9 g => sentQ g 0 rfl HLs.out
              have QS2 : Hid (∀ w9, Gr w [eBus b S', eBus c S'] w9 → Calls Try.prog 18 #[.pointer (some ⟨c, 0, none⟩)] w9 (T.RetSl S'.D.U.sent w9)) := fun w9 g => sentQ g 1 rfl HLs.out
              obtain ⟨fy, hfy⟩ : ∃ fy, S'.F 2147483651 = fy := ⟨_, rfl⟩
              have kq : IntKind.i64.wrap (q' : Int) = (q' : Int) := by have := hN.out; exact IntWalk.i64_in _ (by omega)
              have kq2 : IntKind.i64.wrap ((q' : Int) - 1) = (q' : Int) - 1 := by have := hN.out; exact IntWalk.i64_in _ (by omega)
              have kf : IntKind.u64.wrap (fy : Int) = (fy : Int) := by
                have : fy < 256 := by
                  obtain ⟨R9, W9, q9⟩ := HG.out.get 0 rfl
                  obtain ⟨m9, c9, p9, u9, sv9, g9, -⟩ := bus_open q9
                  obtain ⟨_, _, q8⟩ := g9.get 2 rfl
                  rw [← hfy]; exact q8.2 _
                rw [IntKind.wrap_u64]; omega
              rw [hfy]
              have HFY := Lib.hid hfy
              clear hSB hpd hfy
              go_upto_region 30 with fail
              go_cut [211] from 174 to 210 (fun s w9 => s = .bool false ∧ Hid (Gr w [eBus b S', eBus c S'] w9))
              case first =>
                as_aux_lemma =>
                  have q1 := calls_regrown (W := w4) (fun w9 hb => QT.out w9 (HG.out.below hb))
                  have q2 := calls_regrown (W := w4) (fun w9 hb => QC.out w9 (HG.out.below hb))
                  have q3 := calls_regrown (W := w4) (fun w9 hb => QP.out w9 (HG.out.below hb))
                  have q4 := calls_regrown (W := w4) (fun w9 hb => QP2.out w9 (HG.out.below hb))
                  refine wp_region_below_head 29 9 #[true, true, true, true, true, true, true, true, true, true, true, true, true, true, true, true, true, true, true, true, true, true, true, true, true, true, true, true, true, false, false, false, false, false, false, false, false, false] (by kernel_rfl) (by kernel_rfl) rfl ?_
                  simp only [List.take_succ_cons, List.take_zero]
                  iterate 29 (go_big_quiet_step (first | (go_at_call 15; exact q1 _ _) | (go_at_call 16; exact q2 _ _) | (go_at_call_of 17 b; exact q3 _ _) | (go_at_call_of 17 c; exact q4 _ _)))
                  refine wpQuiet_nil ?_
                  intro _ hw'
                  obtain ⟨⟨dq, osq⟩, hw''⟩ := hw'
                  subst hw''
                  have hb := below_regrown w4 dq osq
                  generalize grow (redrawn w4 dq) osq = w5 at hb ⊢
                  have G8 : Hid (Gr w [eBus b S', eBus c S'] w5) := HG.out.below hb
                  clear q1 q2 q3 q4 hb QT QC QP QP2
                  repeat' (first
                    | exact AllReady.nil
                    | (refine wpAny_done (by decide +kernel) ?_ _; go_wp2_with fail; go_meet; case rel => exact ⟨rfl, G10⟩)
                    | refine wpAny_ready (rs := [29]) (by decide +kernel) (by simp) ?_
                    | refine wpAny_ready (rs := [30, 33]) (by decide +kernel) (by simp) ?_
                    | refine wpAny_ready (rs := [31, 33]) (by decide +kernel) (by simp) ?_
                    | refine wpAny_ready (rs := [30]) (by decide +kernel) (by simp) ?_
                    | refine wpAny_ready (rs := [31]) (by decide +kernel) (by simp) ?_
                    | refine wpAny_ready (rs := [32, 33]) (by decide +kernel) (by simp) ?_
                    | refine wpAny_ready (rs := [33]) (by decide +kernel) (by simp) ?_
                    | refine wpAny_ready (rs := [32, 34]) (by decide +kernel) (by simp) ?_
                    | refine wpAny_ready (rs := [34]) (by decide +kernel) (by simp) ?_
                    | refine wpAny_ready (rs := [32, 35]) (by decide +kernel) (by simp) ?_
                    | refine wpAny_ready (rs := [32]) (by decide +kernel) (by simp) ?_
                    | refine wpAny_ready (rs := [35]) (by decide +kernel) (by simp) ?_
                    | refine wpAny_ready (rs := [36]) (by decide +kernel) (by simp) ?_
                    | refine wpAny_ready (rs := [37]) (by decide +kernel) (by simp) ?_
                    | (go_at_call_of 18 b; refine (QS.out _ G8.out).mono ?_; rintro e w9 ⟨a1, n1, c1, g1, rfl, s1, -, hb⟩; have cv9 := CV.out _ _ _ _ _ _ s1; have HS1 := Lib.hid s1; have G9 := Lib.hid (G8.out.below hb); clear s1 hb; go_wp2_with fail)
                    | (go_at_call_of 18 c; refine (QS2.out _ G9.out).mono ?_; rintro e w10 ⟨a2, n2, c2, g2, rfl, s2, -, hb⟩; have cv10 := CV.out _ _ _ _ _ _ s2; have cv11 := CV.out _ _ _ _ _ _ (T.SlA.below HS1.out hb); have G10 := Lib.hid (G9.out.below hb); clear s2 hb; go_wp2_with fail)
                    | (refine AllReady.cons rfl (fun K hK => ?_) ?_; go_simp; try go_wp2_with fail))
              case rest =>
                obtain ⟨rfl, HG⟩ := hcut
                rw [← HFY.out]
                go_wp2_with fail
                go_roundw
                case rel => (repeat apply Exists.intro); exact ⟨(by omega : k + 1 ≤ N), by go_num, rfl, rfl, hq', HG, HI', HT', HC'⟩
                case measure => simp only [intOf]; omega
        · have nk : decide ((k : Int) < N) = false := decide_eq_false (by omega)
          have nk' : ¬ (k : Int) < N := by omega
          go_wp2_with fail
          go_ret
          exact retB_mk rfl (gr_out HG.out)
end Go.Proofs.Ytkmbhhgkajmfjaa
