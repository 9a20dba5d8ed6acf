/- The walk of WalkStands. -/
import Derived.Test.YthhlcchofilimaaDoorD0
namespace Go.Proofs.YthhlcchofilimaaDoor
open Go.ChangeShapes Go.WideShapes Go.ChangeAt Go.RowKit Go.Sort Y
set_option linter.unusedVariables false
set_option linter.unusedSimpArgs false

theorem and44 (e : Nat) (he : e < 18446744073709551616) : bits .and .u64 ((e : Int) / 1024) 17592186044415 = ((nextN e : Nat) : Int) := by
  rw [show (e : Int) / 1024 = ((e / 1024 : Nat) : Int) by simp, show (17592186044415 : Int) = ((17592186044415 : Nat) : Int) from rfl, u_and (e / 1024) 17592186044415 (by omega) (by decide), show (17592186044415 : Nat) = 2 ^ 44 - 1 from rfl, Nat.and_two_pow_sub_one_eq_mod]; rfl
theorem found_x {F S : Nat → Nat} {m k : Int} {A L tb x e : Nat} (hf : Found F S m k A L tb x e) : x < 18446744073709551616 ∧ U.M.hasV x 8 = true ∧ x % 8 = 0 ∧ e < 18014398509481984 := by
  obtain ⟨h1, ⟨_, h2⟩, h3, h4⟩ := hf
  refine ⟨?_, h2, by rw [← h1]; exact from_8 _ _ _, ?_⟩
  · unfold U.M.hasV at h2
    have := of_decide_eq_true h2
    omega
  · unfold brokenB at h4
    simp only [Bool.or_eq_false_iff, Bool.not_eq_false', beq_iff_eq] at h4
    omega
set_option maxRecDepth 100000 in
set_option maxHeartbeats 4000000 in
theorem stands_core (hW : WalkOk) (hR : ReachOk) (hM : ModeOk) (hAl : AllowsOk) (w : World) (ia : Option Addr) (ig io n ic : Nat) (X : Nat → Nat) (S : Nat → Nat) (m k : Int) (A en : Nat) (hS : Hid (OkS S)) (hA : Hid (A < 18446744073709551616)) (hen : Hid (en < 18446744073709551616)) (hI : Hid (U.M.Byt w ia ig io n ic X)) (hG : Hid (G w)) : Calls Tryd.prog 6 #[.slice ia n ic, .agg (cs S), .int .i64 m, .int .i64 k, .int .u64 A, .int .u64 en] w (RetB true w) := by
  have HF := Lib.hid (fun u hu => fixed_w hW hR hM hAl u hu)
  have HG := Lib.hid (newRow (U.grp_nil _ _ w) 26 (cs S))
  obtain ⟨W0, hW0⟩ : ∃ W0, W0 = w.alloc (Obj.cells (cs S) 26) := ⟨_, rfl⟩
  have hb : Below w.heap.size w W0 := by rw [hW0]; exact (Below.refl _ _).alloc (Nat.le_refl _) _
  have hG0 := hG
  replace hG : Hid (G W0) := g_below hG.out hb hG.out.1
  replace hI : Hid (U.M.Byt W0 ia ig io n ic X) := hI.out.below hb
  rw [← hW0] at HG
  have HW := Lib.hid hW0
  clear hW0 hb
  go_enter Tryd.func6, Tryd.ntmps6
  go_upto_region 1 with fail
  rw [show w.alloc (Obj.cells (cs S) 26) = W0 from HW.out.symm]
  clear HW
  obtain ⟨cb, hcb⟩ : ∃ cb, cb = w.heap.size := ⟨_, rfl⟩
  rw [← hcb] at HG
  rw [← hcb]
  go_wp2_with fail
  refine (HF.out _ hG).mono ?_; rintro e w1 ⟨rfl, hb⟩
  replace hG : Hid (G w1) := g_below hG.out hb hG.out.1
  replace hI : Hid (U.M.Byt w1 ia ig io n ic X) := hI.out.below hb
  replace HG : Hid (U.Gr w [eRow cb 26 (cs S)] w1) := HG.out.below hb
  clear hb HF hcb
  go_wp2_with fail
  refine (U.new_c ia ig io n ic X none 0 0 0 0 [] 0 0 0 0 none 0 0 w1 hI (Lib.hid ⟨rfl, Nat.le_refl _, fun h => absurd h (Nat.lt_irrefl _), fun i hi => absurd hi (by omega)⟩) (Lib.hid (by decide))).mono ?_
  rintro e w2 ⟨hy, hn, hb⟩
  replace hG : Hid (G w2) := g_below hG.out hb hG.out.1
  clear hI
  cases hok : U.okNew n [] with
  | false =>
    obtain rfl := hn hok
    have HB := Lib.hid (U.gr_out (HG.out.below hb))
    clear hy hn hb HG
    go_wp2_with fail
    go_ret
    exact retB_mk rfl HB.out
  | true =>
    obtain ⟨b, R, W, rfl, q, hnew⟩ := hy hok
    obtain ⟨F0, hF0⟩ : ∃ F0, (U.Bs0 n X []).F = F0 := ⟨_, rfl⟩
    have q2 : (U.eBus b (BF n X F0)).P R W w2 := by rw [← hF0]; exact q
    replace HG : Hid (U.Gr w [eRow cb 26 (cs S), U.eBus b (BF n X F0)] w2) := HG.out.push hb q2 hnew
    clear hy hn q q2 hnew hb hF0
    have CW := Lib.hid (fun (F : Nat → Nat) u (hq : BusAt b (BF n X F) u) (hg : Hid (G u)) (hl : cb < u.heap.size ∧ Row u cb 26 (cs S)) => hW (BF n X F) b S cb m k A u hq hS hA hg hl.1 hl.2)
    go_wp2_with fail
    refine (CW.out F0 w2 (busAt HG.out 1 rfl) hG (rowAt HG.out 0 rfl)).mono ?_
    rintro e w3 ⟨rfl, hb⟩
    replace hG : Hid (G w3) := g_below hG.out hb hG.out.1
    replace HG := Lib.hid (HG.out.below hb)
    rw [show (BF n X F0).F = F0 from rfl]
    clear hb
    by_cases hc0 : (walkF F0 S m k A).cau = 0
    · rcases walk_inv hc0 with ⟨hsch, hwk⟩ | ⟨L, tb, x, e, hL, hf, hl, hp, ha, hwk, hnx⟩
      · rw [hwk]
        have HB := Lib.hid (U.gr_out HG.out)
        clear hwk hc0 CW HG hG hA hok hsch
        simp only [WRes.leaf]
        go_wp2_with fail
        go_ret
        exact retB_mk (by simp) (by have h9 := HB.out; exact (by repeat (first | (with_reducible first | exact Below.refl _ _ | assumption | exact Nat.le_refl _ | refine Below.drew ?_ | refine Below.alloc ?_ ?_ _ | refine Below.setCell ?_ ?_ _ | refine le_alloc ?_ | refine le_set ?_ | refine le_drew ?_ | refine below_step (by assumption) ?_ ?_ | refine le_below (by assumption) ?_) | (dsimp only; omega))))
      · obtain ⟨hx64, hxv, hx8, he54⟩ := found_x hf
        have h012 : L = 0 ∨ L = 1 ∨ L = 2 := by omega
        rcases h012 with rfl | rfl | rfl
        · have hpg := leaf_page e A 0 ha
          have hlt := next_lt e
          have hst1 := fun F' (h : Alike F0 F' x) => stand_broken (e' := e &&& (18446744073709551615 - 1)) hf hnx h
          have hst2 := fun F' (h : Alike F0 F' x) hr => stand_perm (e' := e &&& (18446744073709551615 - 64)) hf hnx h hr (old_broken e hf.2.2.2) (old_leaf e hl) (old_perm S m k e)
          have hst3 := fun F' (h : Alike F0 F' x) hr => stand_leaf (e' := e) hf hnx h hr hf.2.2.2 hl hp ha
          obtain ⟨ad, had⟩ : ∃ ad, 4096 * nextN e + A % 2 ^ (12 + 9 * 0) = ad := ⟨_, rfl⟩
          rw [had] at hwk hpg
          rw [had] at hst3
          rw [hwk]
          simp only [WRes.leaf]
          clear hwk hc0 hok
          have HL := newRow HG.out 43 #[.int .u64 ad, .int .i64 0, .int .u64 e, .int .u64 x]
          have HN := Lib.hid HL
          clear HL
          obtain ⟨w4, hw4⟩ : ∃ w4, w4 = w3.alloc (Obj.cells #[.int .u64 ad, .int .i64 0, .int .u64 e, .int .u64 x] 43) := ⟨_, rfl⟩
          have hb : Below w3.heap.size w3 w4 := by rw [hw4]; exact (Below.refl _ _).alloc (Nat.le_refl _) _
          rw [← hw4] at HN
          replace hG : Hid (G w4) := g_below hG.out hb hG.out.1
          have HW4 := Lib.hid hw4
          clear hb hw4 HG
          go_upto_region 9 with fail
          rw [show w3.alloc (Obj.cells #[.int .u64 ad, .int .i64 0, .int .u64 e, .int .u64 x] 43) = w4 from HW4.out.symm]
          clear HW4
          generalize w3.heap.size = lb at HN ⊢
          clear w3
          have k3 : w4.cell? ⟨lb, 3, none⟩ = some (.int .u64 x) := (rowAt HN.out 2 rfl).2.cell 3
          go_wp2_with fail
          refine (readF HN.out 1 rfl x hx64 hxv).mono ?_
          rintro e5 w5 ⟨rfl, h5, hb⟩
          replace HN := Lib.hid h5
          replace hG : Hid (G w5) := g_below hG.out hb hG.out.1
          rw [show U.M.readV (BF n X F0).F x 8 = e from hf.2.2.1]
          clear hb h5 k3
          go_upto_region 10 with fail
          have RL := Lib.hid (rowAt HN.out 2 rfl).2
          have RC := Lib.hid (rowAt HN.out 0 rfl)
          have q0 : ∀ dd os, _ := fun dd os => q_b (w := w5) (dd := dd) (os := os) (b := true) (by
            have := hAl S cb m k e (grow (redrawn w5 dd) os) hS (Lib.hid (show e < 18446744073709551616 by omega)) (Nat.lt_of_lt_of_le RC.out.1 (below_regrown w5 dd os).size) (RC.out.2.below (below_regrown w5 dd os) RC.out.1)
            rw [hp] at this; exact this)
          have K0 := cell_regrown (show w5.cell? ⟨lb, 0, none⟩ = some (.int .u64 ad) from RL.out.cell 0)
          have K1 := cell_regrown (show w5.cell? ⟨lb, 1, none⟩ = some (.int .i64 0) from RL.out.cell 1)
          have K2 := cell_regrown (show w5.cell? ⟨lb, 2, none⟩ = some (.int .u64 e) from RL.out.cell 2)
          have n44 : bits .and .u64 ((e : Int) / 1024) 17592186044415 = ((nextN e : Nat) : Int) := and44 e (by omega)
          have nq : (((ad : Nat) : Int) / 4096 != ((nextN e : Nat) : Int)) = false := by
            have h := hpg
            have h2 : ((ad : Nat) : Int) / 4096 = ((nextN e : Nat) : Int) := by simpa using congrArg (Nat.cast : Nat → Int) h
            rw [h2]; simp
          have RL2 := RL
          clear RL hpg hlt had
          refine wp_region_quiet_below (by kernel_rfl) (by kernel_rfl) ?_
          repeat (first
            | go_big_quiet_skip
            | (go_big_quiet_want; go_big_quiet_op; first | go_big_quiet_on | go_big_quiet_call ((go_at_call 10; exact q0 _ _))))
          refine wpQuiet_nil ?_
          intro _ hw'
          obtain ⟨⟨dq, osq⟩, hw''⟩ := hw'
          subst hw''
          replace HN := Lib.hid (HN.out.below (below_regrown w5 dq osq))
          replace hG : Hid (G (grow (redrawn w5 dq) osq)) := g_below hG.out (below_regrown w5 dq osq) hG.out.1
          clear q0 K0 K1 K2 RL2 RC n44 nq
          generalize grow (redrawn w5 dq) osq = w6 at HN hG ⊢
          clear w5
          have n1 : bits .andNot .u64 (e : Int) 1 = ((e &&& (18446744073709551615 - 1) : Nat) : Int) := u_andNot e 1 (by omega) (by decide)
          have n2 : bits .andNot .u64 (e : Int) 64 = ((e &&& (18446744073709551615 - 64) : Nat) : Int) := u_andNot e 64 (by omega) (by decide)
          have l1 : e &&& (18446744073709551615 - 1) < 18446744073709551616 := and_lt _ _ (by omega)
          have l2 : e &&& (18446744073709551615 - 64) < 18446744073709551616 := and_lt _ _ (by omega)
          have le : e < 18446744073709551616 := by omega
          have a1 := alike_wr F0 x (e &&& (18446744073709551615 - 1)) hx8
          have g1 := hst1 _ a1 (read_in F0 x _ hxv l1) (gone_broken e)
          have a2 := alike_trans a1 (alike_wr (U.M.wrF F0 x 8 (e &&& (18446744073709551615 - 1))) x (e &&& (18446744073709551615 - 64)) hx8)
          have g2 := hst2 _ a2 (read_in _ x _ hxv l2)
          have a3 := alike_trans a2 (alike_wr (U.M.wrF (U.M.wrF F0 x 8 (e &&& (18446744073709551615 - 1))) x 8 (e &&& (18446744073709551615 - 64))) x e hx8)
          have g3 := hst3 _ a3 (read_in _ x _ hxv le)
          generalize e &&& (18446744073709551615 - 1) = v1 at n1 l1 g1 g2 g3 a1 a2 a3
          generalize e &&& (18446744073709551615 - 64) = v2 at n2 l2 g2 g3 a2 a3
          obtain ⟨N, hN⟩ : ∃ N, en % 2 ^ 44 = N := ⟨_, rfl⟩
          have hNl : N < 2 ^ 44 := by rw [← hN]; exact Nat.mod_lt _ (by decide)
          obtain ⟨e3, he3⟩ : ∃ e3, N * 1024 + e % 1024 = e3 := ⟨_, rfl⟩
          have l4 : e3 < 18446744073709551616 := by omega
          have b4 := new_broken N e hNl hf.2.2.2
          have f4 := new_leaf N e hl
          have p4 := new_perm S m k N e
          have x4 := new_next N e hNl
          rw [he3] at b4 f4 p4 x4
          rw [hp] at p4
          have a4 := alike_trans a3 (alike_wr (U.M.wrF (U.M.wrF (U.M.wrF F0 x 8 v1) x 8 v2) x 8 e) x e3 hx8)
          have g4 := stand_leaf hf hnx a4 (read_in _ x _ hxv l4) b4 f4 p4 (by omega)
          rw [x4] at g4
          obtain ⟨ad4, had4⟩ : ∃ ad4, 4096 * N + A % 2 ^ (12 + 9 * 0) = ad4 := ⟨_, rfl⟩
          rw [had4] at g4
          replace had4 : 4096 * N + A % 2 ^ 12 = ad4 := had4
          obtain ⟨lo, hlo⟩ : ∃ lo, A % 2 ^ 12 = lo := ⟨_, rfl⟩
          have q4 : bits .or .u64 ((en : Int) % 17592186044416 * 1024) ((e : Int) % 1024) = ((e3 : Nat) : Int) := by
            have h := low_or (N * 1024) (e % 2 ^ 10) 10 (by omega) (Nat.mod_lt _ (by decide)) (by omega)
            rw [show (en : Int) % 17592186044416 * 1024 = ((N * 1024 : Nat) : Int) by omega, show (e : Int) % 1024 = ((e % 2 ^ 10 : Nat) : Int) by omega, h, ← he3]
          have q5 : ((e3 : Nat) : Int) / 1024 = ((N : Nat) : Int) := by omega
          have q6 : bits .and .u64 (A : Int) 4095 = ((lo : Nat) : Int) := (low_and A 12 hA.out (by decide)).trans (by rw [hlo])
          have q7 : bits .or .u64 ((N * 4096 : Nat) : Int) ((lo : Nat) : Int) = ((ad4 : Nat) : Int) := by
            have h := low_or (N * 4096) lo 12 (by omega) (by omega) (by omega)
            rw [h]; congr 1; omega
          have q8 : IntKind.u64.wrap ((N : Int) * 4096) = ((N * 4096 : Nat) : Int) := by rw [IntKind.wrap_u64]; omega
          have hNi : ((N : Nat) : Int) < 17592186044416 := by omega
          generalize N * 4096 = N4 at q7 q8
          have HQ := Lib.hid (And.intro q4 (And.intro q5 (And.intro q6 (And.intro q7 (And.intro q8 hNi)))))
          have H4 := Lib.hid g4
          have HL4 := Lib.hid l4
          clear hN hNl he3 b4 f4 p4 x4 g4 a4 had4 hlo q4 q5 q6 q7 q8 hNi l4
          have H1 := Lib.hid g1
          have H2 := Lib.hid g2
          have H3 := Lib.hid g3
          have HL1 := Lib.hid l1
          have HL2 := Lib.hid l2
          have HLE := Lib.hid le
          clear g1 g2 g3 l1 l2 le hst1 hst2 hst3 hf hnx ha
          have k3 : w6.cell? ⟨lb, 3, none⟩ = some (.int .u64 x) := (rowAt HN.out 2 rfl).2.cell 3
          go_wp2_with fail
          refine (writeF HN.out 1 rfl x v1 hx64 HL1.out hxv).mono ?_
          rintro e7 w7 ⟨rfl, h7⟩
          replace HN := Lib.hid h7
          replace hG : Hid (G w7) := g_below hG0.out (U.gr_out HN.out) hG0.out.1
          clear h7 k3
          go_wp2_with fail
          have CWn := CW.out (U.M.wrF F0 x 8 v1) w7 (busAt HN.out 1 rfl) hG (rowAt HN.out 0 rfl)
          rw [show (BF n X (U.M.wrF F0 x 8 v1)).F = U.M.wrF F0 x 8 v1 from rfl, H1.out] at CWn
          unfold RetWk at CWn
          simp only [noW, WRes.leaf] at CWn
          refine CWn.mono ?_
          clear CWn
          rintro e8 w8 ⟨rfl, hb⟩
          replace HN := Lib.hid (HN.out.below hb)
          replace hG : Hid (G w8) := g_below hG.out hb hG.out.1
          clear hb
          obtain ⟨w8a, hwa⟩ : ∃ u, u = w8.alloc (Obj.cells #[.int .u64 0, .int .i64 0, .int .u64 0, .int .u64 0] 43) := ⟨_, rfl⟩
          have HWA := Lib.hid hwa
          replace HN := Lib.hid (HN.out.below (show Below w8.heap.size w8 w8a by rw [hwa]; exact (Below.refl _ _).alloc (Nat.le_refl _) _))
          replace hG : Hid (G w8a) := g_below hG0.out (U.gr_out HN.out) hG0.out.1
          clear hwa
          go_upto_region 14 with fail
          rw [show w8.alloc (Obj.cells #[.int .u64 0, .int .i64 0, .int .u64 0, .int .u64 0] 43) = w8a from HWA.out.symm]
          clear HWA
          have k3 : w8a.cell? ⟨lb, 3, none⟩ = some (.int .u64 x) := (rowAt HN.out 2 rfl).2.cell 3
          go_wp2_with fail
          refine (writeF HN.out 1 rfl x v2 hx64 HL2.out hxv).mono ?_
          rintro e7 w9 ⟨rfl, h7⟩
          replace HN := Lib.hid h7
          replace hG : Hid (G w9) := g_below hG0.out (U.gr_out HN.out) hG0.out.1
          clear h7 k3
          go_wp2_with fail
          have CWn := CW.out (U.M.wrF (U.M.wrF F0 x 8 v1) x 8 v2) w9 (busAt HN.out 1 rfl) hG (rowAt HN.out 0 rfl)
          rw [show (BF n X (U.M.wrF (U.M.wrF F0 x 8 v1) x 8 v2)).F = U.M.wrF (U.M.wrF F0 x 8 v1) x 8 v2 from rfl, H2.out] at CWn
          unfold RetWk at CWn
          simp only [noW, WRes.leaf] at CWn
          refine CWn.mono ?_
          clear CWn
          rintro e8 w10 ⟨rfl, hb⟩
          replace HN := Lib.hid (HN.out.below hb)
          replace hG : Hid (G w10) := g_below hG.out hb hG.out.1
          clear hb
          obtain ⟨w10a, hwa⟩ : ∃ u, u = w10.alloc (Obj.cells #[.int .u64 0, .int .i64 0, .int .u64 0, .int .u64 0] 43) := ⟨_, rfl⟩
          have HWA := Lib.hid hwa
          replace HN := Lib.hid (HN.out.below (show Below w10.heap.size w10 w10a by rw [hwa]; exact (Below.refl _ _).alloc (Nat.le_refl _) _))
          replace hG : Hid (G w10a) := g_below hG0.out (U.gr_out HN.out) hG0.out.1
          clear hwa
          go_upto_region 16 with fail
          rw [show w10.alloc (Obj.cells #[.int .u64 0, .int .i64 0, .int .u64 0, .int .u64 0] 43) = w10a from HWA.out.symm]
          clear HWA
          have k3 : w10a.cell? ⟨lb, 3, none⟩ = some (.int .u64 x) := (rowAt HN.out 2 rfl).2.cell 3
          go_wp2_with fail
          refine (writeF HN.out 1 rfl x e hx64 HLE.out hxv).mono ?_
          rintro e7 w11 ⟨rfl, h7⟩
          replace HN := Lib.hid h7
          replace hG : Hid (G w11) := g_below hG0.out (U.gr_out HN.out) hG0.out.1
          clear h7 k3
          go_wp2_with fail
          have CWn := CW.out (U.M.wrF (U.M.wrF (U.M.wrF F0 x 8 v1) x 8 v2) x 8 e) w11 (busAt HN.out 1 rfl) hG (rowAt HN.out 0 rfl)
          rw [show (BF n X (U.M.wrF (U.M.wrF (U.M.wrF F0 x 8 v1) x 8 v2) x 8 e)).F = U.M.wrF (U.M.wrF (U.M.wrF F0 x 8 v1) x 8 v2) x 8 e from rfl, H3.out] at CWn
          unfold RetWk at CWn
          simp only [noW, WRes.leaf] at CWn
          refine CWn.mono ?_
          clear CWn
          rintro e8 w12 ⟨rfl, hb⟩
          replace HN := Lib.hid (HN.out.below hb)
          replace hG : Hid (G w12) := g_below hG.out hb hG.out.1
          clear hb
          obtain ⟨w12a, hwa⟩ : ∃ u, u = w12.alloc (Obj.cells #[.int .u64 ad, .int .i64 0, .int .u64 e, .int .u64 x] 43) := ⟨_, rfl⟩
          have HWA := Lib.hid hwa
          have HN2 := newRow HN.out 43 #[.int .u64 ad, .int .i64 0, .int .u64 e, .int .u64 x]
          rw [← hwa] at HN2
          replace HN := Lib.hid HN2
          clear HN2
          replace hG : Hid (G w12a) := g_below hG0.out (U.gr_out HN.out) hG0.out.1
          clear hwa
          go_upto_region 18 with fail
          rw [show w12.alloc (Obj.cells #[.int .u64 ad, .int .i64 0, .int .u64 e, .int .u64 x] 43) = w12a from HWA.out.symm]
          clear HWA
          have RL := (rowAt HN.out 2 rfl).2
          have RM := (rowAt HN.out 3 rfl).2
          have p0 : w12a.cell? ⟨lb, 0, none⟩ = some (.int .u64 ad) := RL.cell 0
          have p1 : w12a.cell? ⟨lb, 1, none⟩ = some (.int .i64 0) := RL.cell 1
          have p2 : w12a.cell? ⟨lb, 2, none⟩ = some (.int .u64 e) := RL.cell 2
          have p3 : w12a.cell? ⟨lb, 3, none⟩ = some (.int .u64 x) := RL.cell 3
          have m0 : w12a.cell? ⟨w12.heap.size, 0, none⟩ = some (.int .u64 ad) := RM.cell 0
          have m1 : w12a.cell? ⟨w12.heap.size, 1, none⟩ = some (.int .i64 0) := RM.cell 1
          have m2 : w12a.cell? ⟨w12.heap.size, 2, none⟩ = some (.int .u64 e) := RM.cell 2
          have m3 : w12a.cell? ⟨w12.heap.size, 3, none⟩ = some (.int .u64 x) := RM.cell 3
          clear RL RM
          go_wp2_with fail
          refine (pager_c k _).mono ?_; rintro e9 w13 ⟨rfl, h⟩; replace h := h.symm; subst h
          go_wp2_with fail
          refine (pager_c k _).mono ?_; rintro e9 w13 ⟨rfl, h⟩; replace h := h.symm; subst h
          have q1 : bits .and .u64 (en : Int) 17592186044415 = ((en % 2 ^ 44 : Nat) : Int) := low_and en 44 hen.out (by decide)
          have q3 : bits .and .u64 (e : Int) 1023 = ((e % 2 ^ 10 : Nat) : Int) := low_and e 10 HLE.out (by decide)
          have q4 := HQ.out.1
          go_upto_region 22 with fail
          clear q1 q3 q4 p0 p1 p2 p3 m0 m1 m2 m3
          have k3 : w13.cell? ⟨lb, 3, none⟩ = some (.int .u64 x) := (rowAt HN.out 2 rfl).2.cell 3
          go_wp2_with fail
          refine (writeF HN.out 1 rfl x e3 hx64 HL4.out hxv).mono ?_
          rintro e7 w14 ⟨rfl, h7⟩
          replace HN := Lib.hid h7
          replace hG : Hid (G w14) := g_below hG0.out (U.gr_out HN.out) hG0.out.1
          clear h7 k3
          go_wp2_with fail
          have CWn := CW.out (U.M.wrF (U.M.wrF (U.M.wrF (U.M.wrF F0 x 8 v1) x 8 v2) x 8 e) x 8 e3) w14 (busAt HN.out 1 rfl) hG (rowAt HN.out 0 rfl)
          rw [show (BF n X (U.M.wrF (U.M.wrF (U.M.wrF (U.M.wrF F0 x 8 v1) x 8 v2) x 8 e) x 8 e3)).F = U.M.wrF (U.M.wrF (U.M.wrF (U.M.wrF F0 x 8 v1) x 8 v2) x 8 e) x 8 e3 from rfl, H4.out] at CWn
          unfold RetWk at CWn
          simp only [WRes.leaf] at CWn
          refine CWn.mono ?_
          clear CWn
          rintro e8 w15 ⟨rfl, hb⟩
          replace HN := Lib.hid (HN.out.below hb)
          clear hb
          have HB := Lib.hid (U.gr_out HN.out)
          obtain ⟨q4, q5, q6, q7, q8, hNi⟩ := HQ.out
          clear HN hG CW H1 H2 H3 H4
          go_wp2_with fail
          go_ret
          exact retB_mk (by simp) (by have h9 := HB.out; exact (by repeat (first | (with_reducible first | exact Below.refl _ _ | assumption | exact Nat.le_refl _ | refine Below.drew ?_ | refine Below.alloc ?_ ?_ _ | refine Below.setCell ?_ ?_ _ | refine le_alloc ?_ | refine le_set ?_ | refine le_drew ?_ | refine below_step (by assumption) ?_ ?_ | refine le_below (by assumption) ?_) | (dsimp only; omega))))
        · have hpg := leaf_page e A 1 ha
          have hlt := next_lt e
          have hst1 := fun F' (h : Alike F0 F' x) => stand_broken (e' := e &&& (18446744073709551615 - 1)) hf hnx h
          have hst2 := fun F' (h : Alike F0 F' x) hr => stand_perm (e' := e &&& (18446744073709551615 - 64)) hf hnx h hr (old_broken e hf.2.2.2) (old_leaf e hl) (old_perm S m k e)
          have hst3 := fun F' (h : Alike F0 F' x) hr => stand_leaf (e' := e) hf hnx h hr hf.2.2.2 hl hp ha
          obtain ⟨ad, had⟩ : ∃ ad, 4096 * nextN e + A % 2 ^ (12 + 9 * 1) = ad := ⟨_, rfl⟩
          rw [had] at hwk hpg
          rw [had] at hst3
          rw [hwk]
          simp only [WRes.leaf]
          clear hwk hc0 hok
          have HL := newRow HG.out 43 #[.int .u64 ad, .int .i64 1, .int .u64 e, .int .u64 x]
          have HN := Lib.hid HL
          clear HL
          obtain ⟨w4, hw4⟩ : ∃ w4, w4 = w3.alloc (Obj.cells #[.int .u64 ad, .int .i64 1, .int .u64 e, .int .u64 x] 43) := ⟨_, rfl⟩
          have hb : Below w3.heap.size w3 w4 := by rw [hw4]; exact (Below.refl _ _).alloc (Nat.le_refl _) _
          rw [← hw4] at HN
          replace hG : Hid (G w4) := g_below hG.out hb hG.out.1
          have HW4 := Lib.hid hw4
          clear hb hw4 HG
          go_upto_region 9 with fail
          rw [show w3.alloc (Obj.cells #[.int .u64 ad, .int .i64 1, .int .u64 e, .int .u64 x] 43) = w4 from HW4.out.symm]
          clear HW4
          generalize w3.heap.size = lb at HN ⊢
          clear w3
          have k3 : w4.cell? ⟨lb, 3, none⟩ = some (.int .u64 x) := (rowAt HN.out 2 rfl).2.cell 3
          go_wp2_with fail
          refine (readF HN.out 1 rfl x hx64 hxv).mono ?_
          rintro e5 w5 ⟨rfl, h5, hb⟩
          replace HN := Lib.hid h5
          replace hG : Hid (G w5) := g_below hG.out hb hG.out.1
          rw [show U.M.readV (BF n X F0).F x 8 = e from hf.2.2.1]
          clear hb h5 k3
          go_upto_region 10 with fail
          have RL := Lib.hid (rowAt HN.out 2 rfl).2
          have RC := Lib.hid (rowAt HN.out 0 rfl)
          have q0 : ∀ dd os, _ := fun dd os => q_b (w := w5) (dd := dd) (os := os) (b := true) (by
            have := hAl S cb m k e (grow (redrawn w5 dd) os) hS (Lib.hid (show e < 18446744073709551616 by omega)) (Nat.lt_of_lt_of_le RC.out.1 (below_regrown w5 dd os).size) (RC.out.2.below (below_regrown w5 dd os) RC.out.1)
            rw [hp] at this; exact this)
          have K0 := cell_regrown (show w5.cell? ⟨lb, 0, none⟩ = some (.int .u64 ad) from RL.out.cell 0)
          have K1 := cell_regrown (show w5.cell? ⟨lb, 1, none⟩ = some (.int .i64 1) from RL.out.cell 1)
          have K2 := cell_regrown (show w5.cell? ⟨lb, 2, none⟩ = some (.int .u64 e) from RL.out.cell 2)
          have n44 : bits .and .u64 ((e : Int) / 1024) 17592186044415 = ((nextN e : Nat) : Int) := and44 e (by omega)
          have nq : (((ad : Nat) : Int) / 4096 / 512 != ((nextN e : Nat) : Int) / 512) = false := by
            have h := hpg
            have h2 : ((ad : Nat) : Int) / 4096 / 512 = ((nextN e : Nat) : Int) / 512 := by simpa using congrArg (Nat.cast : Nat → Int) h
            rw [h2]; simp
          have RL2 := RL
          clear RL hpg hlt had
          refine wp_region_quiet_below (by kernel_rfl) (by kernel_rfl) ?_
          repeat (first
            | go_big_quiet_skip
            | (go_big_quiet_want; go_big_quiet_op; first | go_big_quiet_on | go_big_quiet_call ((go_at_call 10; exact q0 _ _))))
          refine wpQuiet_nil ?_
          intro _ hw'
          obtain ⟨⟨dq, osq⟩, hw''⟩ := hw'
          subst hw''
          replace HN := Lib.hid (HN.out.below (below_regrown w5 dq osq))
          replace hG : Hid (G (grow (redrawn w5 dq) osq)) := g_below hG.out (below_regrown w5 dq osq) hG.out.1
          clear q0 K0 K1 K2 RL2 RC n44 nq
          generalize grow (redrawn w5 dq) osq = w6 at HN hG ⊢
          clear w5
          have n1 : bits .andNot .u64 (e : Int) 1 = ((e &&& (18446744073709551615 - 1) : Nat) : Int) := u_andNot e 1 (by omega) (by decide)
          have n2 : bits .andNot .u64 (e : Int) 64 = ((e &&& (18446744073709551615 - 64) : Nat) : Int) := u_andNot e 64 (by omega) (by decide)
          have l1 : e &&& (18446744073709551615 - 1) < 18446744073709551616 := and_lt _ _ (by omega)
          have l2 : e &&& (18446744073709551615 - 64) < 18446744073709551616 := and_lt _ _ (by omega)
          have le : e < 18446744073709551616 := by omega
          have a1 := alike_wr F0 x (e &&& (18446744073709551615 - 1)) hx8
          have g1 := hst1 _ a1 (read_in F0 x _ hxv l1) (gone_broken e)
          have a2 := alike_trans a1 (alike_wr (U.M.wrF F0 x 8 (e &&& (18446744073709551615 - 1))) x (e &&& (18446744073709551615 - 64)) hx8)
          have g2 := hst2 _ a2 (read_in _ x _ hxv l2)
          have a3 := alike_trans a2 (alike_wr (U.M.wrF (U.M.wrF F0 x 8 (e &&& (18446744073709551615 - 1))) x 8 (e &&& (18446744073709551615 - 64))) x e hx8)
          have g3 := hst3 _ a3 (read_in _ x _ hxv le)
          generalize e &&& (18446744073709551615 - 1) = v1 at n1 l1 g1 g2 g3 a1 a2 a3
          generalize e &&& (18446744073709551615 - 64) = v2 at n2 l2 g2 g3 a2 a3
          have H1 := Lib.hid g1
          have H2 := Lib.hid g2
          have H3 := Lib.hid g3
          have HL1 := Lib.hid l1
          have HL2 := Lib.hid l2
          have HLE := Lib.hid le
          clear g1 g2 g3 l1 l2 le hst1 hst2 hst3 hf hnx ha
          have k3 : w6.cell? ⟨lb, 3, none⟩ = some (.int .u64 x) := (rowAt HN.out 2 rfl).2.cell 3
          go_wp2_with fail
          refine (writeF HN.out 1 rfl x v1 hx64 HL1.out hxv).mono ?_
          rintro e7 w7 ⟨rfl, h7⟩
          replace HN := Lib.hid h7
          replace hG : Hid (G w7) := g_below hG0.out (U.gr_out HN.out) hG0.out.1
          clear h7 k3
          go_wp2_with fail
          have CWn := CW.out (U.M.wrF F0 x 8 v1) w7 (busAt HN.out 1 rfl) hG (rowAt HN.out 0 rfl)
          rw [show (BF n X (U.M.wrF F0 x 8 v1)).F = U.M.wrF F0 x 8 v1 from rfl, H1.out] at CWn
          unfold RetWk at CWn
          simp only [noW, WRes.leaf] at CWn
          refine CWn.mono ?_
          clear CWn
          rintro e8 w8 ⟨rfl, hb⟩
          replace HN := Lib.hid (HN.out.below hb)
          replace hG : Hid (G w8) := g_below hG.out hb hG.out.1
          clear hb
          obtain ⟨w8a, hwa⟩ : ∃ u, u = w8.alloc (Obj.cells #[.int .u64 0, .int .i64 0, .int .u64 0, .int .u64 0] 43) := ⟨_, rfl⟩
          have HWA := Lib.hid hwa
          replace HN := Lib.hid (HN.out.below (show Below w8.heap.size w8 w8a by rw [hwa]; exact (Below.refl _ _).alloc (Nat.le_refl _) _))
          replace hG : Hid (G w8a) := g_below hG0.out (U.gr_out HN.out) hG0.out.1
          clear hwa
          go_upto_region 14 with fail
          rw [show w8.alloc (Obj.cells #[.int .u64 0, .int .i64 0, .int .u64 0, .int .u64 0] 43) = w8a from HWA.out.symm]
          clear HWA
          have k3 : w8a.cell? ⟨lb, 3, none⟩ = some (.int .u64 x) := (rowAt HN.out 2 rfl).2.cell 3
          go_wp2_with fail
          refine (writeF HN.out 1 rfl x v2 hx64 HL2.out hxv).mono ?_
          rintro e7 w9 ⟨rfl, h7⟩
          replace HN := Lib.hid h7
          replace hG : Hid (G w9) := g_below hG0.out (U.gr_out HN.out) hG0.out.1
          clear h7 k3
          go_wp2_with fail
          have CWn := CW.out (U.M.wrF (U.M.wrF F0 x 8 v1) x 8 v2) w9 (busAt HN.out 1 rfl) hG (rowAt HN.out 0 rfl)
          rw [show (BF n X (U.M.wrF (U.M.wrF F0 x 8 v1) x 8 v2)).F = U.M.wrF (U.M.wrF F0 x 8 v1) x 8 v2 from rfl, H2.out] at CWn
          unfold RetWk at CWn
          simp only [noW, WRes.leaf] at CWn
          refine CWn.mono ?_
          clear CWn
          rintro e8 w10 ⟨rfl, hb⟩
          replace HN := Lib.hid (HN.out.below hb)
          replace hG : Hid (G w10) := g_below hG.out hb hG.out.1
          clear hb
          obtain ⟨w10a, hwa⟩ : ∃ u, u = w10.alloc (Obj.cells #[.int .u64 0, .int .i64 0, .int .u64 0, .int .u64 0] 43) := ⟨_, rfl⟩
          have HWA := Lib.hid hwa
          replace HN := Lib.hid (HN.out.below (show Below w10.heap.size w10 w10a by rw [hwa]; exact (Below.refl _ _).alloc (Nat.le_refl _) _))
          replace hG : Hid (G w10a) := g_below hG0.out (U.gr_out HN.out) hG0.out.1
          clear hwa
          go_upto_region 16 with fail
          rw [show w10.alloc (Obj.cells #[.int .u64 0, .int .i64 0, .int .u64 0, .int .u64 0] 43) = w10a from HWA.out.symm]
          clear HWA
          have k3 : w10a.cell? ⟨lb, 3, none⟩ = some (.int .u64 x) := (rowAt HN.out 2 rfl).2.cell 3
          go_wp2_with fail
          refine (writeF HN.out 1 rfl x e hx64 HLE.out hxv).mono ?_
          rintro e7 w11 ⟨rfl, h7⟩
          replace HN := Lib.hid h7
          replace hG : Hid (G w11) := g_below hG0.out (U.gr_out HN.out) hG0.out.1
          clear h7 k3
          go_wp2_with fail
          have CWn := CW.out (U.M.wrF (U.M.wrF (U.M.wrF F0 x 8 v1) x 8 v2) x 8 e) w11 (busAt HN.out 1 rfl) hG (rowAt HN.out 0 rfl)
          rw [show (BF n X (U.M.wrF (U.M.wrF (U.M.wrF F0 x 8 v1) x 8 v2) x 8 e)).F = U.M.wrF (U.M.wrF (U.M.wrF F0 x 8 v1) x 8 v2) x 8 e from rfl, H3.out] at CWn
          unfold RetWk at CWn
          simp only [noW, WRes.leaf] at CWn
          refine CWn.mono ?_
          clear CWn
          rintro e8 w12 ⟨rfl, hb⟩
          replace HN := Lib.hid (HN.out.below hb)
          replace hG : Hid (G w12) := g_below hG.out hb hG.out.1
          clear hb
          obtain ⟨w12a, hwa⟩ : ∃ u, u = w12.alloc (Obj.cells #[.int .u64 ad, .int .i64 1, .int .u64 e, .int .u64 x] 43) := ⟨_, rfl⟩
          have HWA := Lib.hid hwa
          have HN2 := newRow HN.out 43 #[.int .u64 ad, .int .i64 1, .int .u64 e, .int .u64 x]
          rw [← hwa] at HN2
          replace HN := Lib.hid HN2
          clear HN2
          replace hG : Hid (G w12a) := g_below hG0.out (U.gr_out HN.out) hG0.out.1
          clear hwa
          go_upto_region 18 with fail
          rw [show w12.alloc (Obj.cells #[.int .u64 ad, .int .i64 1, .int .u64 e, .int .u64 x] 43) = w12a from HWA.out.symm]
          clear HWA
          have RL := (rowAt HN.out 2 rfl).2
          have RM := (rowAt HN.out 3 rfl).2
          have p0 : w12a.cell? ⟨lb, 0, none⟩ = some (.int .u64 ad) := RL.cell 0
          have p1 : w12a.cell? ⟨lb, 1, none⟩ = some (.int .i64 1) := RL.cell 1
          have p2 : w12a.cell? ⟨lb, 2, none⟩ = some (.int .u64 e) := RL.cell 2
          have p3 : w12a.cell? ⟨lb, 3, none⟩ = some (.int .u64 x) := RL.cell 3
          have m0 : w12a.cell? ⟨w12.heap.size, 0, none⟩ = some (.int .u64 ad) := RM.cell 0
          have m1 : w12a.cell? ⟨w12.heap.size, 1, none⟩ = some (.int .i64 1) := RM.cell 1
          have m2 : w12a.cell? ⟨w12.heap.size, 2, none⟩ = some (.int .u64 e) := RM.cell 2
          have m3 : w12a.cell? ⟨w12.heap.size, 3, none⟩ = some (.int .u64 x) := RM.cell 3
          clear RL RM
          go_wp2_with fail
          refine (pager_c k _).mono ?_; rintro e9 w13 ⟨rfl, h⟩; replace h := h.symm; subst h
          go_wp2_with fail
          refine (pager_c k _).mono ?_; rintro e9 w13 ⟨rfl, h⟩; replace h := h.symm; subst h
          go_wp2_with fail
          go_ret
          exact retB_mk (by simp) (U.gr_out HN.out)
        · have hpg := leaf_page e A 2 ha
          have hlt := next_lt e
          have hst1 := fun F' (h : Alike F0 F' x) => stand_broken (e' := e &&& (18446744073709551615 - 1)) hf hnx h
          have hst2 := fun F' (h : Alike F0 F' x) hr => stand_perm (e' := e &&& (18446744073709551615 - 64)) hf hnx h hr (old_broken e hf.2.2.2) (old_leaf e hl) (old_perm S m k e)
          have hst3 := fun F' (h : Alike F0 F' x) hr => stand_leaf (e' := e) hf hnx h hr hf.2.2.2 hl hp ha
          obtain ⟨ad, had⟩ : ∃ ad, 4096 * nextN e + A % 2 ^ (12 + 9 * 2) = ad := ⟨_, rfl⟩
          rw [had] at hwk hpg
          rw [had] at hst3
          rw [hwk]
          simp only [WRes.leaf]
          clear hwk hc0 hok
          have HL := newRow HG.out 43 #[.int .u64 ad, .int .i64 2, .int .u64 e, .int .u64 x]
          have HN := Lib.hid HL
          clear HL
          obtain ⟨w4, hw4⟩ : ∃ w4, w4 = w3.alloc (Obj.cells #[.int .u64 ad, .int .i64 2, .int .u64 e, .int .u64 x] 43) := ⟨_, rfl⟩
          have hb : Below w3.heap.size w3 w4 := by rw [hw4]; exact (Below.refl _ _).alloc (Nat.le_refl _) _
          rw [← hw4] at HN
          replace hG : Hid (G w4) := g_below hG.out hb hG.out.1
          have HW4 := Lib.hid hw4
          clear hb hw4 HG
          go_upto_region 9 with fail
          rw [show w3.alloc (Obj.cells #[.int .u64 ad, .int .i64 2, .int .u64 e, .int .u64 x] 43) = w4 from HW4.out.symm]
          clear HW4
          generalize w3.heap.size = lb at HN ⊢
          clear w3
          have k3 : w4.cell? ⟨lb, 3, none⟩ = some (.int .u64 x) := (rowAt HN.out 2 rfl).2.cell 3
          go_wp2_with fail
          refine (readF HN.out 1 rfl x hx64 hxv).mono ?_
          rintro e5 w5 ⟨rfl, h5, hb⟩
          replace HN := Lib.hid h5
          replace hG : Hid (G w5) := g_below hG.out hb hG.out.1
          rw [show U.M.readV (BF n X F0).F x 8 = e from hf.2.2.1]
          clear hb h5 k3
          go_upto_region 10 with fail
          have RL := Lib.hid (rowAt HN.out 2 rfl).2
          have RC := Lib.hid (rowAt HN.out 0 rfl)
          have q0 : ∀ dd os, _ := fun dd os => q_b (w := w5) (dd := dd) (os := os) (b := true) (by
            have := hAl S cb m k e (grow (redrawn w5 dd) os) hS (Lib.hid (show e < 18446744073709551616 by omega)) (Nat.lt_of_lt_of_le RC.out.1 (below_regrown w5 dd os).size) (RC.out.2.below (below_regrown w5 dd os) RC.out.1)
            rw [hp] at this; exact this)
          have K0 := cell_regrown (show w5.cell? ⟨lb, 0, none⟩ = some (.int .u64 ad) from RL.out.cell 0)
          have K1 := cell_regrown (show w5.cell? ⟨lb, 1, none⟩ = some (.int .i64 2) from RL.out.cell 1)
          have K2 := cell_regrown (show w5.cell? ⟨lb, 2, none⟩ = some (.int .u64 e) from RL.out.cell 2)
          have n44 : bits .and .u64 ((e : Int) / 1024) 17592186044415 = ((nextN e : Nat) : Int) := and44 e (by omega)
          have nq : (((ad : Nat) : Int) / 4096 / 262144 != ((nextN e : Nat) : Int) / 262144) = false := by
            have h := hpg
            have h2 : ((ad : Nat) : Int) / 4096 / 262144 = ((nextN e : Nat) : Int) / 262144 := by simpa using congrArg (Nat.cast : Nat → Int) h
            rw [h2]; simp
          have RL2 := RL
          clear RL hpg hlt had
          refine wp_region_quiet_below (by kernel_rfl) (by kernel_rfl) ?_
          repeat (first
            | go_big_quiet_skip
            | (go_big_quiet_want; go_big_quiet_op; first | go_big_quiet_on | go_big_quiet_call ((go_at_call 10; exact q0 _ _))))
          refine wpQuiet_nil ?_
          intro _ hw'
          obtain ⟨⟨dq, osq⟩, hw''⟩ := hw'
          subst hw''
          replace HN := Lib.hid (HN.out.below (below_regrown w5 dq osq))
          replace hG : Hid (G (grow (redrawn w5 dq) osq)) := g_below hG.out (below_regrown w5 dq osq) hG.out.1
          clear q0 K0 K1 K2 RL2 RC n44 nq
          generalize grow (redrawn w5 dq) osq = w6 at HN hG ⊢
          clear w5
          have n1 : bits .andNot .u64 (e : Int) 1 = ((e &&& (18446744073709551615 - 1) : Nat) : Int) := u_andNot e 1 (by omega) (by decide)
          have n2 : bits .andNot .u64 (e : Int) 64 = ((e &&& (18446744073709551615 - 64) : Nat) : Int) := u_andNot e 64 (by omega) (by decide)
          have l1 : e &&& (18446744073709551615 - 1) < 18446744073709551616 := and_lt _ _ (by omega)
          have l2 : e &&& (18446744073709551615 - 64) < 18446744073709551616 := and_lt _ _ (by omega)
          have le : e < 18446744073709551616 := by omega
          have a1 := alike_wr F0 x (e &&& (18446744073709551615 - 1)) hx8
          have g1 := hst1 _ a1 (read_in F0 x _ hxv l1) (gone_broken e)
          have a2 := alike_trans a1 (alike_wr (U.M.wrF F0 x 8 (e &&& (18446744073709551615 - 1))) x (e &&& (18446744073709551615 - 64)) hx8)
          have g2 := hst2 _ a2 (read_in _ x _ hxv l2)
          have a3 := alike_trans a2 (alike_wr (U.M.wrF (U.M.wrF F0 x 8 (e &&& (18446744073709551615 - 1))) x 8 (e &&& (18446744073709551615 - 64))) x e hx8)
          have g3 := hst3 _ a3 (read_in _ x _ hxv le)
          generalize e &&& (18446744073709551615 - 1) = v1 at n1 l1 g1 g2 g3 a1 a2 a3
          generalize e &&& (18446744073709551615 - 64) = v2 at n2 l2 g2 g3 a2 a3
          have H1 := Lib.hid g1
          have H2 := Lib.hid g2
          have H3 := Lib.hid g3
          have HL1 := Lib.hid l1
          have HL2 := Lib.hid l2
          have HLE := Lib.hid le
          clear g1 g2 g3 l1 l2 le hst1 hst2 hst3 hf hnx ha
          have k3 : w6.cell? ⟨lb, 3, none⟩ = some (.int .u64 x) := (rowAt HN.out 2 rfl).2.cell 3
          go_wp2_with fail
          refine (writeF HN.out 1 rfl x v1 hx64 HL1.out hxv).mono ?_
          rintro e7 w7 ⟨rfl, h7⟩
          replace HN := Lib.hid h7
          replace hG : Hid (G w7) := g_below hG0.out (U.gr_out HN.out) hG0.out.1
          clear h7 k3
          go_wp2_with fail
          have CWn := CW.out (U.M.wrF F0 x 8 v1) w7 (busAt HN.out 1 rfl) hG (rowAt HN.out 0 rfl)
          rw [show (BF n X (U.M.wrF F0 x 8 v1)).F = U.M.wrF F0 x 8 v1 from rfl, H1.out] at CWn
          unfold RetWk at CWn
          simp only [noW, WRes.leaf] at CWn
          refine CWn.mono ?_
          clear CWn
          rintro e8 w8 ⟨rfl, hb⟩
          replace HN := Lib.hid (HN.out.below hb)
          replace hG : Hid (G w8) := g_below hG.out hb hG.out.1
          clear hb
          obtain ⟨w8a, hwa⟩ : ∃ u, u = w8.alloc (Obj.cells #[.int .u64 0, .int .i64 0, .int .u64 0, .int .u64 0] 43) := ⟨_, rfl⟩
          have HWA := Lib.hid hwa
          replace HN := Lib.hid (HN.out.below (show Below w8.heap.size w8 w8a by rw [hwa]; exact (Below.refl _ _).alloc (Nat.le_refl _) _))
          replace hG : Hid (G w8a) := g_below hG0.out (U.gr_out HN.out) hG0.out.1
          clear hwa
          go_upto_region 14 with fail
          rw [show w8.alloc (Obj.cells #[.int .u64 0, .int .i64 0, .int .u64 0, .int .u64 0] 43) = w8a from HWA.out.symm]
          clear HWA
          have k3 : w8a.cell? ⟨lb, 3, none⟩ = some (.int .u64 x) := (rowAt HN.out 2 rfl).2.cell 3
          go_wp2_with fail
          refine (writeF HN.out 1 rfl x v2 hx64 HL2.out hxv).mono ?_
          rintro e7 w9 ⟨rfl, h7⟩
          replace HN := Lib.hid h7
          replace hG : Hid (G w9) := g_below hG0.out (U.gr_out HN.out) hG0.out.1
          clear h7 k3
          go_wp2_with fail
          have CWn := CW.out (U.M.wrF (U.M.wrF F0 x 8 v1) x 8 v2) w9 (busAt HN.out 1 rfl) hG (rowAt HN.out 0 rfl)
          rw [show (BF n X (U.M.wrF (U.M.wrF F0 x 8 v1) x 8 v2)).F = U.M.wrF (U.M.wrF F0 x 8 v1) x 8 v2 from rfl, H2.out] at CWn
          unfold RetWk at CWn
          simp only [noW, WRes.leaf] at CWn
          refine CWn.mono ?_
          clear CWn
          rintro e8 w10 ⟨rfl, hb⟩
          replace HN := Lib.hid (HN.out.below hb)
          replace hG : Hid (G w10) := g_below hG.out hb hG.out.1
          clear hb
          obtain ⟨w10a, hwa⟩ : ∃ u, u = w10.alloc (Obj.cells #[.int .u64 0, .int .i64 0, .int .u64 0, .int .u64 0] 43) := ⟨_, rfl⟩
          have HWA := Lib.hid hwa
          replace HN := Lib.hid (HN.out.below (show Below w10.heap.size w10 w10a by rw [hwa]; exact (Below.refl _ _).alloc (Nat.le_refl _) _))
          replace hG : Hid (G w10a) := g_below hG0.out (U.gr_out HN.out) hG0.out.1
          clear hwa
          go_upto_region 16 with fail
          rw [show w10.alloc (Obj.cells #[.int .u64 0, .int .i64 0, .int .u64 0, .int .u64 0] 43) = w10a from HWA.out.symm]
          clear HWA
          have k3 : w10a.cell? ⟨lb, 3, none⟩ = some (.int .u64 x) := (rowAt HN.out 2 rfl).2.cell 3
          go_wp2_with fail
          refine (writeF HN.out 1 rfl x e hx64 HLE.out hxv).mono ?_
          rintro e7 w11 ⟨rfl, h7⟩
          replace HN := Lib.hid h7
          replace hG : Hid (G w11) := g_below hG0.out (U.gr_out HN.out) hG0.out.1
          clear h7 k3
          go_wp2_with fail
          have CWn := CW.out (U.M.wrF (U.M.wrF (U.M.wrF F0 x 8 v1) x 8 v2) x 8 e) w11 (busAt HN.out 1 rfl) hG (rowAt HN.out 0 rfl)
          rw [show (BF n X (U.M.wrF (U.M.wrF (U.M.wrF F0 x 8 v1) x 8 v2) x 8 e)).F = U.M.wrF (U.M.wrF (U.M.wrF F0 x 8 v1) x 8 v2) x 8 e from rfl, H3.out] at CWn
          unfold RetWk at CWn
          simp only [noW, WRes.leaf] at CWn
          refine CWn.mono ?_
          clear CWn
          rintro e8 w12 ⟨rfl, hb⟩
          replace HN := Lib.hid (HN.out.below hb)
          replace hG : Hid (G w12) := g_below hG.out hb hG.out.1
          clear hb
          obtain ⟨w12a, hwa⟩ : ∃ u, u = w12.alloc (Obj.cells #[.int .u64 ad, .int .i64 2, .int .u64 e, .int .u64 x] 43) := ⟨_, rfl⟩
          have HWA := Lib.hid hwa
          have HN2 := newRow HN.out 43 #[.int .u64 ad, .int .i64 2, .int .u64 e, .int .u64 x]
          rw [← hwa] at HN2
          replace HN := Lib.hid HN2
          clear HN2
          replace hG : Hid (G w12a) := g_below hG0.out (U.gr_out HN.out) hG0.out.1
          clear hwa
          go_upto_region 18 with fail
          rw [show w12.alloc (Obj.cells #[.int .u64 ad, .int .i64 2, .int .u64 e, .int .u64 x] 43) = w12a from HWA.out.symm]
          clear HWA
          have RL := (rowAt HN.out 2 rfl).2
          have RM := (rowAt HN.out 3 rfl).2
          have p0 : w12a.cell? ⟨lb, 0, none⟩ = some (.int .u64 ad) := RL.cell 0
          have p1 : w12a.cell? ⟨lb, 1, none⟩ = some (.int .i64 2) := RL.cell 1
          have p2 : w12a.cell? ⟨lb, 2, none⟩ = some (.int .u64 e) := RL.cell 2
          have p3 : w12a.cell? ⟨lb, 3, none⟩ = some (.int .u64 x) := RL.cell 3
          have m0 : w12a.cell? ⟨w12.heap.size, 0, none⟩ = some (.int .u64 ad) := RM.cell 0
          have m1 : w12a.cell? ⟨w12.heap.size, 1, none⟩ = some (.int .i64 2) := RM.cell 1
          have m2 : w12a.cell? ⟨w12.heap.size, 2, none⟩ = some (.int .u64 e) := RM.cell 2
          have m3 : w12a.cell? ⟨w12.heap.size, 3, none⟩ = some (.int .u64 x) := RM.cell 3
          clear RL RM
          go_wp2_with fail
          refine (pager_c k _).mono ?_; rintro e9 w13 ⟨rfl, h⟩; replace h := h.symm; subst h
          go_wp2_with fail
          refine (pager_c k _).mono ?_; rintro e9 w13 ⟨rfl, h⟩; replace h := h.symm; subst h
          go_wp2_with fail
          go_ret
          exact retB_mk (by simp) (U.gr_out HN.out)
    · obtain ⟨hwk, hlt16⟩ := walk_cause hc0
      generalize (walkF F0 S m k A).cau = c at hwk hlt16 hc0
      rw [hwk]
      have HB := Lib.hid (U.gr_out HG.out)
      clear hwk CW HG hG hA hok
      simp only [noW, WRes.leaf]
      have e1 : (((c : Nat) : Int) != 0) = true := by simpa using hc0
      have e3 : (((c : Nat) : Int) == 0) = false := by simpa using hc0
      clear hc0 hlt16
      go_wp2_with fail
      go_ret
      exact retB_mk (by simp) (by have h9 := HB.out; exact (by repeat (first | (with_reducible first | exact Below.refl _ _ | assumption | exact Nat.le_refl _ | refine Below.drew ?_ | refine Below.alloc ?_ ?_ _ | refine Below.setCell ?_ ?_ _ | refine le_alloc ?_ | refine le_set ?_ | refine le_drew ?_ | refine below_step (by assumption) ?_ ?_ | refine le_below (by assumption) ?_) | (dsimp only; omega))))
end Go.Proofs.YthhlcchofilimaaDoor
