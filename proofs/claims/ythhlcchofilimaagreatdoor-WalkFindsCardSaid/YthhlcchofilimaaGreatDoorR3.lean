/- The document's Walk. -/
import Derived.Test.YthhlcchofilimaaGreatDoorR2
import Derived.LoopN
namespace Go.Proofs.YthhlcchofilimaaGreatDoor
open Go.ChangeShapes Go.WideShapes Go.ChangeAt Go.RowKit Go.Sort Y
set_option linter.unusedVariables false
set_option linter.unusedSimpArgs false
theorem info_lr (a : Nat) (l : Int) (e f : Nat) : (Tryz.prog.info? 45).map (·.size) = some (lf4 a l e f).size := by show _ = some 4; kernel_rfl
set_option maxRecDepth 100000 in
set_option maxHeartbeats 16000000 in
theorem walkr_core (F S : Nat → Nat) (rb mm c x : Nat) (m k : Int) (pg ft sc hi t2 p2 f2 z2 h2 a2 t1 p1 f1 z1 h1 a1 t0 p0 f0 z0 h0 a0 tz : Nat) (nt g1 g2 ck2 pl2 v2 y2 o2 e2 u2 q2 d2 hb2 al2 nb2 ck1 pl1 v1 y1 o1 e1 u1 q1 d1 hb1 al1 nb1 ck0 pl0 v0 y0 o0 e0 u0 q0 d0 hb0 al0 nb0 : Bool) (r r2 r1 r0 : WRes) (m3 : (m == 3) = false)
    (CS1 : Hid (∀ u, Calls Tryz.prog 37 #[.int .u64 (S 20 : Nat), .int .i64 63, .int .i64 60] u (RetUX sc u)))
    (CS2 : Hid (∀ u, Calls Tryz.prog 37 #[.int .u64 x, .int .i64 63, .int .i64 38] u (RetUX hi u)))
    (CS3 : Hid (∀ u, Calls Tryz.prog 37 #[.int .u64 (S 20 : Nat), .int .i64 43, .int .i64 0] u (RetUX t2 u)))
    (fsc : ((sc : Int) != 8) = nt) (fv1 : ((hi : Int) != 0) = g1) (fv2 : ((hi : Int) != 67108863) = g2)
    (CP : Hid (∀ u, Calls Tryz.prog 38 #[.int .i64 k] u (RetUX pg u)))
    (CX : Hid (∀ u, Calls Tryz.prog 41 #[.int .i64 k] u (RetUX ft u)))
    (CQ2 : Hid (∀ u, Calls Tryz.prog 37 #[.int .u64 x, .int .i64 38, .int .i64 30] u (RetUX p2 u)))
    (FF2 : Hid (IntKind.u64.wrap (IntKind.u64.wrap (4096 * (t2 : Int)) + IntKind.u64.wrap (8 * (p2 : Int))) = (f2 : Int)))
    (CK2 : Hid (∀ u, Calls Tryz.prog 39 #[.agg (u8s (cfO S)), .agg (u64s (adO S)), .int .i64 1, .int .i64 1, .int .u64 f2, .int .i64 8] u (RetB ck2 u)))
    (CL2 : Hid (∀ u, RAt rb mm F u → Calls Tryz.prog 40 #[.pointer (some ⟨rb, 0, none⟩), .int .u64 f2, .int .i64 8] u (RetB pl2 u)))
    (CR2 : Hid (∀ u, RAt rb mm F u → Calls Tryz.prog 42 #[.pointer (some ⟨mm, 0, none⟩), .int .u64 f2, .int .i64 8] u (RetRE z2 pl2 u)))
    (CB2 : Hid (∀ u, Calls Tryz.prog 43 #[.int .u64 z2, .int .i64 0] u (RetBX v2 u) ∧ Calls Tryz.prog 43 #[.int .u64 z2, .int .i64 1] u (RetBX y2 u) ∧ Calls Tryz.prog 43 #[.int .u64 z2, .int .i64 2] u (RetBX o2 u) ∧ Calls Tryz.prog 43 #[.int .u64 z2, .int .i64 3] u (RetBX e2 u)))
    (CU2 : Hid (∀ u, Calls Tryz.prog 43 #[.int .u64 z2, .int .i64 4] u (RetBX u2 u) ∧ Calls Tryz.prog 43 #[.int .u64 z2, .int .i64 6] u (RetBX q2 u) ∧ Calls Tryz.prog 43 #[.int .u64 z2, .int .i64 7] u (RetBX d2 u)))
    (CH2 : Hid (∀ u, Calls Tryz.prog 37 #[.int .u64 z2, .int .i64 63, .int .i64 54] u (RetUX h2 u)))
    (FH2 : Hid (((h2 : Int) != 0) = hb2))
    (CT2 : Hid (∀ u, Calls Tryz.prog 37 #[.int .u64 z2, .int .i64 53, .int .i64 10] u (RetUX t1 u)))
    (CA2 : Hid (∀ u, Row u c 27 (cs S) → Calls Tryz.prog 44 #[.pointer (some ⟨c, 0, none⟩), .int .i64 m, .int .i64 k, .int .u64 z2] u (RetBX al2 u)))
    (FB2 : Hid (((IntKind.u64.wrap (4096 * (t1 : Int))).tmod 1073741824 != 0) = nb2))
    (FA2 : Hid (IntKind.u64.wrap (IntKind.u64.wrap (4096 * (t1 : Int)) + (x : Int) % 1073741824) = (a2 : Int)))
    (E2 : Hid (r2 = cond ck2 (cond pl2 (cond v2 (cond o2 (cond y2 (cond hb2 (noW pg) (cond y2 (cond al2 (cond nb2 (noW pg) ⟨a2, 2, z2, f2, 0⟩) (noW pg)) (cond e2 (cond al2 (cond nb2 (noW pg) ⟨a2, 2, z2, f2, 0⟩) (noW pg)) (cond u2 (noW pg) (cond q2 (noW pg) (cond d2 (noW pg) r1)))))) (noW pg)) (cond hb2 (noW pg) (cond y2 (cond al2 (cond nb2 (noW pg) ⟨a2, 2, z2, f2, 0⟩) (noW pg)) (cond e2 (cond al2 (cond nb2 (noW pg) ⟨a2, 2, z2, f2, 0⟩) (noW pg)) (cond u2 (noW pg) (cond q2 (noW pg) (cond d2 (noW pg) r1))))))) (noW pg)) (noW ft)) (noW ft)))
    (CQ1 : Hid (∀ u, Calls Tryz.prog 37 #[.int .u64 x, .int .i64 29, .int .i64 21] u (RetUX p1 u)))
    (FF1 : Hid (IntKind.u64.wrap (IntKind.u64.wrap (4096 * (t1 : Int)) + IntKind.u64.wrap (8 * (p1 : Int))) = (f1 : Int)))
    (CK1 : Hid (∀ u, Calls Tryz.prog 39 #[.agg (u8s (cfO S)), .agg (u64s (adO S)), .int .i64 1, .int .i64 1, .int .u64 f1, .int .i64 8] u (RetB ck1 u)))
    (CL1 : Hid (∀ u, RAt rb mm F u → Calls Tryz.prog 40 #[.pointer (some ⟨rb, 0, none⟩), .int .u64 f1, .int .i64 8] u (RetB pl1 u)))
    (CR1 : Hid (∀ u, RAt rb mm F u → Calls Tryz.prog 42 #[.pointer (some ⟨mm, 0, none⟩), .int .u64 f1, .int .i64 8] u (RetRE z1 pl1 u)))
    (CB1 : Hid (∀ u, Calls Tryz.prog 43 #[.int .u64 z1, .int .i64 0] u (RetBX v1 u) ∧ Calls Tryz.prog 43 #[.int .u64 z1, .int .i64 1] u (RetBX y1 u) ∧ Calls Tryz.prog 43 #[.int .u64 z1, .int .i64 2] u (RetBX o1 u) ∧ Calls Tryz.prog 43 #[.int .u64 z1, .int .i64 3] u (RetBX e1 u)))
    (CU1 : Hid (∀ u, Calls Tryz.prog 43 #[.int .u64 z1, .int .i64 4] u (RetBX u1 u) ∧ Calls Tryz.prog 43 #[.int .u64 z1, .int .i64 6] u (RetBX q1 u) ∧ Calls Tryz.prog 43 #[.int .u64 z1, .int .i64 7] u (RetBX d1 u)))
    (CH1 : Hid (∀ u, Calls Tryz.prog 37 #[.int .u64 z1, .int .i64 63, .int .i64 54] u (RetUX h1 u)))
    (FH1 : Hid (((h1 : Int) != 0) = hb1))
    (CT1 : Hid (∀ u, Calls Tryz.prog 37 #[.int .u64 z1, .int .i64 53, .int .i64 10] u (RetUX t0 u)))
    (CA1 : Hid (∀ u, Row u c 27 (cs S) → Calls Tryz.prog 44 #[.pointer (some ⟨c, 0, none⟩), .int .i64 m, .int .i64 k, .int .u64 z1] u (RetBX al1 u)))
    (FB1 : Hid (((IntKind.u64.wrap (4096 * (t0 : Int))).tmod 2097152 != 0) = nb1))
    (FA1 : Hid (IntKind.u64.wrap (IntKind.u64.wrap (4096 * (t0 : Int)) + (x : Int) % 2097152) = (a1 : Int)))
    (E1 : Hid (r1 = cond ck1 (cond pl1 (cond v1 (cond o1 (cond y1 (cond hb1 (noW pg) (cond y1 (cond al1 (cond nb1 (noW pg) ⟨a1, 1, z1, f1, 0⟩) (noW pg)) (cond e1 (cond al1 (cond nb1 (noW pg) ⟨a1, 1, z1, f1, 0⟩) (noW pg)) (cond u1 (noW pg) (cond q1 (noW pg) (cond d1 (noW pg) r0)))))) (noW pg)) (cond hb1 (noW pg) (cond y1 (cond al1 (cond nb1 (noW pg) ⟨a1, 1, z1, f1, 0⟩) (noW pg)) (cond e1 (cond al1 (cond nb1 (noW pg) ⟨a1, 1, z1, f1, 0⟩) (noW pg)) (cond u1 (noW pg) (cond q1 (noW pg) (cond d1 (noW pg) r0))))))) (noW pg)) (noW ft)) (noW ft)))
    (CQ0 : Hid (∀ u, Calls Tryz.prog 37 #[.int .u64 x, .int .i64 20, .int .i64 12] u (RetUX p0 u)))
    (FF0 : Hid (IntKind.u64.wrap (IntKind.u64.wrap (4096 * (t0 : Int)) + IntKind.u64.wrap (8 * (p0 : Int))) = (f0 : Int)))
    (CK0 : Hid (∀ u, Calls Tryz.prog 39 #[.agg (u8s (cfO S)), .agg (u64s (adO S)), .int .i64 1, .int .i64 1, .int .u64 f0, .int .i64 8] u (RetB ck0 u)))
    (CL0 : Hid (∀ u, RAt rb mm F u → Calls Tryz.prog 40 #[.pointer (some ⟨rb, 0, none⟩), .int .u64 f0, .int .i64 8] u (RetB pl0 u)))
    (CR0 : Hid (∀ u, RAt rb mm F u → Calls Tryz.prog 42 #[.pointer (some ⟨mm, 0, none⟩), .int .u64 f0, .int .i64 8] u (RetRE z0 pl0 u)))
    (CB0 : Hid (∀ u, Calls Tryz.prog 43 #[.int .u64 z0, .int .i64 0] u (RetBX v0 u) ∧ Calls Tryz.prog 43 #[.int .u64 z0, .int .i64 1] u (RetBX y0 u) ∧ Calls Tryz.prog 43 #[.int .u64 z0, .int .i64 2] u (RetBX o0 u) ∧ Calls Tryz.prog 43 #[.int .u64 z0, .int .i64 3] u (RetBX e0 u)))
    (CU0 : Hid (∀ u, Calls Tryz.prog 43 #[.int .u64 z0, .int .i64 4] u (RetBX u0 u) ∧ Calls Tryz.prog 43 #[.int .u64 z0, .int .i64 6] u (RetBX q0 u) ∧ Calls Tryz.prog 43 #[.int .u64 z0, .int .i64 7] u (RetBX d0 u)))
    (CH0 : Hid (∀ u, Calls Tryz.prog 37 #[.int .u64 z0, .int .i64 63, .int .i64 54] u (RetUX h0 u)))
    (FH0 : Hid (((h0 : Int) != 0) = hb0))
    (CT0 : Hid (∀ u, Calls Tryz.prog 37 #[.int .u64 z0, .int .i64 53, .int .i64 10] u (RetUX tz u)))
    (CA0 : Hid (∀ u, Row u c 27 (cs S) → Calls Tryz.prog 44 #[.pointer (some ⟨c, 0, none⟩), .int .i64 m, .int .i64 k, .int .u64 z0] u (RetBX al0 u)))
    (FB0 : Hid (((IntKind.u64.wrap (4096 * (tz : Int))).tmod 4096 != 0) = nb0))
    (FA0 : Hid (IntKind.u64.wrap (IntKind.u64.wrap (4096 * (tz : Int)) + (x : Int) % 4096) = (a0 : Int)))
    (E0 : Hid (r0 = cond ck0 (cond pl0 (cond v0 (cond o0 (cond y0 (cond hb0 (noW pg) (cond y0 (cond al0 (cond nb0 (noW pg) ⟨a0, 0, z0, f0, 0⟩) (noW pg)) (cond e0 (cond al0 (cond nb0 (noW pg) ⟨a0, 0, z0, f0, 0⟩) (noW pg)) (cond u0 (noW pg) (cond q0 (noW pg) (cond d0 (noW pg) (noW pg))))))) (noW pg)) (cond hb0 (noW pg) (cond y0 (cond al0 (cond nb0 (noW pg) ⟨a0, 0, z0, f0, 0⟩) (noW pg)) (cond e0 (cond al0 (cond nb0 (noW pg) ⟨a0, 0, z0, f0, 0⟩) (noW pg)) (cond u0 (noW pg) (cond q0 (noW pg) (cond d0 (noW pg) (noW pg)))))))) (noW pg)) (noW ft)) (noW ft)))
    (ER : Hid (r = cond nt ⟨x, -1, 0, 0, 0⟩ (cond (g1 && g2) (noW pg) r2)))
    (w : World) (hq : RAt rb mm F w) (hc : c < w.heap.size) (hr : Row w c 27 (cs S)) :
    Calls Tryz.prog 8 #[.pointer (some ⟨rb, 0, none⟩), .pointer (some ⟨c, 0, none⟩), .int .i64 m, .int .i64 k, .int .u64 x] w (RetWk r w) := by
  obtain ⟨W0, hW0⟩ : ∃ W0, W0 = w.alloc (Obj.cells (lf4 0 0 0 0) 45) := ⟨_, rfl⟩
  have hb : Below w.heap.size w W0 := by rw [hW0]; exact (Below.refl _ _).alloc (Nat.le_refl _) _
  have RL : Hid (Row W0 w.heap.size 45 (lf4 0 0 0 0)) := by show Row _ _ _ _; rw [hW0]; exact row_new _ _ _
  have LG : Hid (w.heap.size < W0.heap.size) := by show _ < _; rw [hW0, sz_alloc]; exact Nat.lt_succ_self _
  have HB : Hid (Below w.heap.size w W0) := hb
  have HQ := Lib.hid (hq.below hb)
  have RC := Lib.hid (hr.below hb hc)
  have LC : Hid (c < W0.heap.size) := Nat.lt_of_lt_of_le hc hb.size
  have h20 : W0.cell? ⟨c, 20, none⟩ = some (.int .u64 (S 20 : Nat)) := (RC.out.cell 20).trans rfl
  have HW := Lib.hid hW0
  clear hb hr hc hq hW0
  go_enter Tryz.func8, Tryz.ntmps8
  go_upto_region 1 with fail
  rw [show w.alloc (Obj.cells #[.int .u64 0, .int .i64 0, .int .u64 0, .int .u64 0] 45) = W0 from HW.out.symm]
  clear HW
  go_wp2_with fail
  refine (CS1.out _).mono ?_; rintro e wq ⟨rfl, h⟩; replace h := h.symm; subst h
  cases nt
  · go_wp2_with fail
    refine (CS2.out _).mono ?_; rintro e wq ⟨rfl, h⟩; replace h := h.symm; subst h
    go_upto_region 4 with fail
    go_cut [49] (fun s wx => s = .bool (g1 && g2) ∧ wx = wq)
    case first =>
      cases g1 <;> cases g2
      all_goals
        go_wp2_with fail
        go_meet
        exact ⟨rfl, rfl⟩
    case rest =>
      obtain ⟨rfl, rfl⟩ := hcut
      clear fv1 fv2
      generalize (g1 && g2) = bb at *
      cases bb
      · go_wp2_with fail
        refine (CS3.out _).mono ?_; rintro e wq ⟨rfl, h⟩; replace h := h.symm; subst h
        clear CS1 CS2 CS3 fsc h20
        go_wp2_with fail
        refine wp_loop_rounds 4 ?_
        rw [rounds_succ]
        have ff := FF2.out
        go_wp2_with fail
        refine (CQ2.out _).mono ?_; rintro e wq ⟨rfl, h⟩; replace h := h.symm; subst h
        go_wp2_with fail
        clear ff
        have qk : ∀ dd os, Calls Tryz.prog 39 #[.agg (u8s (cfO S)), .agg (u64s (adO S)), .int .i64 1, .int .i64 1, .int .u64 f2, .int .i64 8] (grow (redrawn wq dd) os) fun e w'' => e = .returned (.bool ck2) ∧ ∃ p : Regrown, w'' = grow (redrawn wq p.d) p.os := fun dd os => q_b (CK2.out _)
        refine wp_region_quiet_below (by kernel_rfl) (by kernel_rfl) ?_
        repeat (first
          | go_big_quiet_skip
          | (go_big_quiet_want; first
              | (refine quiet_load_part 24 _ rfl c 22 rfl 27 (cs S) (u8s (cfO S)) _ RC.out (cs_cfg S) Tryz.underlying24 rfl (info8c _) ?_; simp only [Act.put, List.setIfInBounds_toArray, List.set_cons_succ, List.set_cons_zero]; go_big_quiet_on)
              | (refine quiet_load_part 25 _ rfl c 30 rfl 27 (cs S) (u64s (adO S)) _ RC.out (cs_adr S) Tryz.underlying25 rfl (info8a _) ?_; simp only [Act.put, List.setIfInBounds_toArray, List.set_cons_succ, List.set_cons_zero]; go_big_quiet_on)
              | (go_big_quiet_op; first | go_big_quiet_on | go_big_quiet_call ((go_at_call 39; exact qk _ _)))))
        refine wpQuiet_nil ?_
        intro _ hw'
        obtain ⟨⟨dq, osq⟩, hw''⟩ := hw'
        subst hw''
        have hb := below_regrown wq dq osq
        generalize grow (redrawn wq dq) osq = wk2 at hb ⊢
        clear qk
        replace HB := Lib.hid (below_step hb HB.out (Nat.le_trans (Nat.le_succ _) LG.out))
        replace HQ := Lib.hid (HQ.out.below hb)
        replace RC := Lib.hid (RC.out.below hb LC.out)
        replace LC : Hid (c < wk2.heap.size) := Nat.lt_of_lt_of_le LC.out hb.size
        replace RL := Lib.hid (RL.out.below hb LG.out)
        replace LG : Hid (w.heap.size < wk2.heap.size) := Nat.lt_of_lt_of_le LG.out hb.size
        clear hb
        go_wp2_with fail
        refine (CL2.out _ HQ.out).mono ?_; rintro e wp2 ⟨rfl, hb⟩
        replace HB := Lib.hid (below_step hb HB.out (Nat.le_trans (Nat.le_succ _) LG.out))
        replace HQ := Lib.hid (HQ.out.below hb)
        replace RC := Lib.hid (RC.out.below hb LC.out)
        replace LC : Hid (c < wp2.heap.size) := Nat.lt_of_lt_of_le LC.out hb.size
        replace RL := Lib.hid (RL.out.below hb LG.out)
        replace LG : Hid (w.heap.size < wp2.heap.size) := Nat.lt_of_lt_of_le LG.out hb.size
        clear hb
        cases ck2
        · go_wp2_with fail
          refine (CX.out _).mono ?_; rintro e wq ⟨rfl, h⟩; replace h := h.symm; subst h
          go_wp2_with (refine wpList_store_rowP (fun wx => Below w.heap.size w wx ∧ Row wx w.heap.size 45 (lf4 0 0 0 0)) rfl 45 _ _ rfl w.heap.size (lf4 0 0 0 0) rfl rfl 45 (lf4 0 0 0 0) RL.out (info_lr _ _ _ _) rfl (one_lf _ _ _ _) ⟨below_setRow HB.out (Nat.le_refl _) _, RL.out.setRow _⟩ ?_; rintro wz ⟨hb2, hr2⟩)
          (try simp only [Exit.inBlock, Exit.then])
          refine bodyPost_ret (results_row2 rfl _ _ w.heap.size 45 (lf4 0 0 0 0) (0, 0) _ rfl hr2 Tryz.underlying45 rfl (info_lr _ _ _ _)) rfl ?_
          exact ⟨by rw [show r = _ from (ER.out.trans E2.out)]; rfl, hb2⟩
        · cases pl2
          · go_wp2_with fail
            refine (CX.out _).mono ?_; rintro e wq ⟨rfl, h⟩; replace h := h.symm; subst h
            go_wp2_with (refine wpList_store_rowP (fun wx => Below w.heap.size w wx ∧ Row wx w.heap.size 45 (lf4 0 0 0 0)) rfl 45 _ _ rfl w.heap.size (lf4 0 0 0 0) rfl rfl 45 (lf4 0 0 0 0) RL.out (info_lr _ _ _ _) rfl (one_lf _ _ _ _) ⟨below_setRow HB.out (Nat.le_refl _) _, RL.out.setRow _⟩ ?_; rintro wz ⟨hb2, hr2⟩)
            (try simp only [Exit.inBlock, Exit.then])
            refine bodyPost_ret (results_row2 rfl _ _ w.heap.size 45 (lf4 0 0 0 0) (0, 0) _ rfl hr2 Tryz.underlying45 rfl (info_lr _ _ _ _)) rfl ?_
            exact ⟨by rw [show r = _ from (ER.out.trans E2.out)]; rfl, hb2⟩
          · have hm := HQ.out.cell
            go_wp2_with fail
            refine (CR2.out _ HQ.out).mono ?_; rintro e wr2 ⟨rfl, hb⟩
            clear hm
            replace HB := Lib.hid (below_step hb HB.out (Nat.le_trans (Nat.le_succ _) LG.out))
            replace HQ := Lib.hid (HQ.out.below hb)
            replace RC := Lib.hid (RC.out.below hb LC.out)
            replace LC : Hid (c < wr2.heap.size) := Nat.lt_of_lt_of_le LC.out hb.size
            replace RL := Lib.hid (RL.out.below hb LG.out)
            replace LG : Hid (w.heap.size < wr2.heap.size) := Nat.lt_of_lt_of_le LG.out hb.size
            clear hb
            go_wp2_with fail
            refine ((CB2.out _).1).mono ?_; rintro e wq ⟨rfl, h⟩; replace h := h.symm; subst h
            go_wp2_with fail
            refine ((CB2.out _).2.1).mono ?_; rintro e wq ⟨rfl, h⟩; replace h := h.symm; subst h
            go_wp2_with fail
            refine ((CB2.out _).2.2.1).mono ?_; rintro e wq ⟨rfl, h⟩; replace h := h.symm; subst h
            go_wp2_with fail
            refine ((CB2.out _).2.2.2).mono ?_; rintro e wq ⟨rfl, h⟩; replace h := h.symm; subst h
            cases v2
            · go_wp2_with fail
              refine (CP.out _).mono ?_; rintro e wq ⟨rfl, h⟩; replace h := h.symm; subst h
              go_wp2_with (refine wpList_store_rowP (fun wx => Below w.heap.size w wx ∧ Row wx w.heap.size 45 (lf4 0 0 0 0)) rfl 45 _ _ rfl w.heap.size (lf4 0 0 0 0) rfl rfl 45 (lf4 0 0 0 0) RL.out (info_lr _ _ _ _) rfl (one_lf _ _ _ _) ⟨below_setRow HB.out (Nat.le_refl _) _, RL.out.setRow _⟩ ?_; rintro wz ⟨hb2, hr2⟩)
              (try simp only [Exit.inBlock, Exit.then])
              refine bodyPost_ret (results_row2 rfl _ _ w.heap.size 45 (lf4 0 0 0 0) (0, 0) _ rfl hr2 Tryz.underlying45 rfl (info_lr _ _ _ _)) rfl ?_
              exact ⟨by rw [show r = _ from (ER.out.trans E2.out)]; rfl, hb2⟩
            · cases o2
              · go_wp2_with fail
                refine (CH2.out _).mono ?_; rintro e wq ⟨rfl, h⟩; replace h := h.symm; subst h
                have fh := FH2.out
                cases hb2
                · go_wp2_with fail
                  refine (CT2.out _).mono ?_; rintro e wq ⟨rfl, h⟩; replace h := h.symm; subst h
                  clear fh
                  cases y2
                  · cases e2
                    · go_wp2_with fail
                      refine ((CU2.out _).1).mono ?_; rintro e wq ⟨rfl, h⟩; replace h := h.symm; subst h
                      go_wp2_with fail
                      refine ((CU2.out _).2.1).mono ?_; rintro e wq ⟨rfl, h⟩; replace h := h.symm; subst h
                      go_wp2_with fail
                      refine ((CU2.out _).2.2).mono ?_; rintro e wq ⟨rfl, h⟩; replace h := h.symm; subst h
                      cases u2
                      · cases q2
                        · cases d2
                          · clear CQ2 FF2 CK2 CL2 CR2 CB2 CU2 CH2 FH2 CT2 CA2 FB2 FA2
                            go_wp2_with fail
                            rw [rounds_succ]
                            have ff := FF1.out
                            go_wp2_with fail
                            refine (CQ1.out _).mono ?_; rintro e wq ⟨rfl, h⟩; replace h := h.symm; subst h
                            go_wp2_with fail
                            clear ff
                            have qk : ∀ dd os, Calls Tryz.prog 39 #[.agg (u8s (cfO S)), .agg (u64s (adO S)), .int .i64 1, .int .i64 1, .int .u64 f1, .int .i64 8] (grow (redrawn wq dd) os) fun e w'' => e = .returned (.bool ck1) ∧ ∃ p : Regrown, w'' = grow (redrawn wq p.d) p.os := fun dd os => q_b (CK1.out _)
                            refine wp_region_quiet_below (by kernel_rfl) (by kernel_rfl) ?_
                            repeat (first
                              | go_big_quiet_skip
                              | (go_big_quiet_want; first
                                  | (refine quiet_load_part 24 _ rfl c 22 rfl 27 (cs S) (u8s (cfO S)) _ RC.out (cs_cfg S) Tryz.underlying24 rfl (info8c _) ?_; simp only [Act.put, List.setIfInBounds_toArray, List.set_cons_succ, List.set_cons_zero]; go_big_quiet_on)
                                  | (refine quiet_load_part 25 _ rfl c 30 rfl 27 (cs S) (u64s (adO S)) _ RC.out (cs_adr S) Tryz.underlying25 rfl (info8a _) ?_; simp only [Act.put, List.setIfInBounds_toArray, List.set_cons_succ, List.set_cons_zero]; go_big_quiet_on)
                                  | (go_big_quiet_op; first | go_big_quiet_on | go_big_quiet_call ((go_at_call 39; exact qk _ _)))))
                            refine wpQuiet_nil ?_
                            intro _ hw'
                            obtain ⟨⟨dq, osq⟩, hw''⟩ := hw'
                            subst hw''
                            have hb := below_regrown wq dq osq
                            generalize grow (redrawn wq dq) osq = wk1 at hb ⊢
                            clear qk
                            replace HB := Lib.hid (below_step hb HB.out (Nat.le_trans (Nat.le_succ _) LG.out))
                            replace HQ := Lib.hid (HQ.out.below hb)
                            replace RC := Lib.hid (RC.out.below hb LC.out)
                            replace LC : Hid (c < wk1.heap.size) := Nat.lt_of_lt_of_le LC.out hb.size
                            replace RL := Lib.hid (RL.out.below hb LG.out)
                            replace LG : Hid (w.heap.size < wk1.heap.size) := Nat.lt_of_lt_of_le LG.out hb.size
                            clear hb
                            go_wp2_with fail
                            refine (CL1.out _ HQ.out).mono ?_; rintro e wp1 ⟨rfl, hb⟩
                            replace HB := Lib.hid (below_step hb HB.out (Nat.le_trans (Nat.le_succ _) LG.out))
                            replace HQ := Lib.hid (HQ.out.below hb)
                            replace RC := Lib.hid (RC.out.below hb LC.out)
                            replace LC : Hid (c < wp1.heap.size) := Nat.lt_of_lt_of_le LC.out hb.size
                            replace RL := Lib.hid (RL.out.below hb LG.out)
                            replace LG : Hid (w.heap.size < wp1.heap.size) := Nat.lt_of_lt_of_le LG.out hb.size
                            clear hb
                            cases ck1
                            · go_wp2_with fail
                              refine (CX.out _).mono ?_; rintro e wq ⟨rfl, h⟩; replace h := h.symm; subst h
                              go_wp2_with (refine wpList_store_rowP (fun wx => Below w.heap.size w wx ∧ Row wx w.heap.size 45 (lf4 0 0 0 0)) rfl 45 _ _ rfl w.heap.size (lf4 0 0 0 0) rfl rfl 45 (lf4 0 0 0 0) RL.out (info_lr _ _ _ _) rfl (one_lf _ _ _ _) ⟨below_setRow HB.out (Nat.le_refl _) _, RL.out.setRow _⟩ ?_; rintro wz ⟨hb2, hr2⟩)
                              (try simp only [Exit.inBlock, Exit.then])
                              refine bodyPost_ret (results_row2 rfl _ _ w.heap.size 45 (lf4 0 0 0 0) (0, 0) _ rfl hr2 Tryz.underlying45 rfl (info_lr _ _ _ _)) rfl ?_
                              exact ⟨by rw [show r = _ from (ER.out.trans (E2.out.trans E1.out))]; rfl, hb2⟩
                            · cases pl1
                              · go_wp2_with fail
                                refine (CX.out _).mono ?_; rintro e wq ⟨rfl, h⟩; replace h := h.symm; subst h
                                go_wp2_with (refine wpList_store_rowP (fun wx => Below w.heap.size w wx ∧ Row wx w.heap.size 45 (lf4 0 0 0 0)) rfl 45 _ _ rfl w.heap.size (lf4 0 0 0 0) rfl rfl 45 (lf4 0 0 0 0) RL.out (info_lr _ _ _ _) rfl (one_lf _ _ _ _) ⟨below_setRow HB.out (Nat.le_refl _) _, RL.out.setRow _⟩ ?_; rintro wz ⟨hb2, hr2⟩)
                                (try simp only [Exit.inBlock, Exit.then])
                                refine bodyPost_ret (results_row2 rfl _ _ w.heap.size 45 (lf4 0 0 0 0) (0, 0) _ rfl hr2 Tryz.underlying45 rfl (info_lr _ _ _ _)) rfl ?_
                                exact ⟨by rw [show r = _ from (ER.out.trans (E2.out.trans E1.out))]; rfl, hb2⟩
                              · have hm := HQ.out.cell
                                go_wp2_with fail
                                refine (CR1.out _ HQ.out).mono ?_; rintro e wr1 ⟨rfl, hb⟩
                                clear hm
                                replace HB := Lib.hid (below_step hb HB.out (Nat.le_trans (Nat.le_succ _) LG.out))
                                replace HQ := Lib.hid (HQ.out.below hb)
                                replace RC := Lib.hid (RC.out.below hb LC.out)
                                replace LC : Hid (c < wr1.heap.size) := Nat.lt_of_lt_of_le LC.out hb.size
                                replace RL := Lib.hid (RL.out.below hb LG.out)
                                replace LG : Hid (w.heap.size < wr1.heap.size) := Nat.lt_of_lt_of_le LG.out hb.size
                                clear hb
                                go_wp2_with fail
                                refine ((CB1.out _).1).mono ?_; rintro e wq ⟨rfl, h⟩; replace h := h.symm; subst h
                                go_wp2_with fail
                                refine ((CB1.out _).2.1).mono ?_; rintro e wq ⟨rfl, h⟩; replace h := h.symm; subst h
                                go_wp2_with fail
                                refine ((CB1.out _).2.2.1).mono ?_; rintro e wq ⟨rfl, h⟩; replace h := h.symm; subst h
                                go_wp2_with fail
                                refine ((CB1.out _).2.2.2).mono ?_; rintro e wq ⟨rfl, h⟩; replace h := h.symm; subst h
                                cases v1
                                · go_wp2_with fail
                                  refine (CP.out _).mono ?_; rintro e wq ⟨rfl, h⟩; replace h := h.symm; subst h
                                  go_wp2_with (refine wpList_store_rowP (fun wx => Below w.heap.size w wx ∧ Row wx w.heap.size 45 (lf4 0 0 0 0)) rfl 45 _ _ rfl w.heap.size (lf4 0 0 0 0) rfl rfl 45 (lf4 0 0 0 0) RL.out (info_lr _ _ _ _) rfl (one_lf _ _ _ _) ⟨below_setRow HB.out (Nat.le_refl _) _, RL.out.setRow _⟩ ?_; rintro wz ⟨hb2, hr2⟩)
                                  (try simp only [Exit.inBlock, Exit.then])
                                  refine bodyPost_ret (results_row2 rfl _ _ w.heap.size 45 (lf4 0 0 0 0) (0, 0) _ rfl hr2 Tryz.underlying45 rfl (info_lr _ _ _ _)) rfl ?_
                                  exact ⟨by rw [show r = _ from (ER.out.trans (E2.out.trans E1.out))]; rfl, hb2⟩
                                · cases o1
                                  · go_wp2_with fail
                                    refine (CH1.out _).mono ?_; rintro e wq ⟨rfl, h⟩; replace h := h.symm; subst h
                                    have fh := FH1.out
                                    cases hb1
                                    · go_wp2_with fail
                                      refine (CT1.out _).mono ?_; rintro e wq ⟨rfl, h⟩; replace h := h.symm; subst h
                                      clear fh
                                      cases y1
                                      · cases e1
                                        · go_wp2_with fail
                                          refine ((CU1.out _).1).mono ?_; rintro e wq ⟨rfl, h⟩; replace h := h.symm; subst h
                                          go_wp2_with fail
                                          refine ((CU1.out _).2.1).mono ?_; rintro e wq ⟨rfl, h⟩; replace h := h.symm; subst h
                                          go_wp2_with fail
                                          refine ((CU1.out _).2.2).mono ?_; rintro e wq ⟨rfl, h⟩; replace h := h.symm; subst h
                                          cases u1
                                          · cases q1
                                            · cases d1
                                              · clear CQ1 FF1 CK1 CL1 CR1 CB1 CU1 CH1 FH1 CT1 CA1 FB1 FA1
                                                go_wp2_with fail
                                                rw [rounds_succ]
                                                have ff := FF0.out
                                                go_wp2_with fail
                                                refine (CQ0.out _).mono ?_; rintro e wq ⟨rfl, h⟩; replace h := h.symm; subst h
                                                go_wp2_with fail
                                                clear ff
                                                have qk : ∀ dd os, Calls Tryz.prog 39 #[.agg (u8s (cfO S)), .agg (u64s (adO S)), .int .i64 1, .int .i64 1, .int .u64 f0, .int .i64 8] (grow (redrawn wq dd) os) fun e w'' => e = .returned (.bool ck0) ∧ ∃ p : Regrown, w'' = grow (redrawn wq p.d) p.os := fun dd os => q_b (CK0.out _)
                                                refine wp_region_quiet_below (by kernel_rfl) (by kernel_rfl) ?_
                                                repeat (first
                                                  | go_big_quiet_skip
                                                  | (go_big_quiet_want; first
                                                      | (refine quiet_load_part 24 _ rfl c 22 rfl 27 (cs S) (u8s (cfO S)) _ RC.out (cs_cfg S) Tryz.underlying24 rfl (info8c _) ?_; simp only [Act.put, List.setIfInBounds_toArray, List.set_cons_succ, List.set_cons_zero]; go_big_quiet_on)
                                                      | (refine quiet_load_part 25 _ rfl c 30 rfl 27 (cs S) (u64s (adO S)) _ RC.out (cs_adr S) Tryz.underlying25 rfl (info8a _) ?_; simp only [Act.put, List.setIfInBounds_toArray, List.set_cons_succ, List.set_cons_zero]; go_big_quiet_on)
                                                      | (go_big_quiet_op; first | go_big_quiet_on | go_big_quiet_call ((go_at_call 39; exact qk _ _)))))
                                                refine wpQuiet_nil ?_
                                                intro _ hw'
                                                obtain ⟨⟨dq, osq⟩, hw''⟩ := hw'
                                                subst hw''
                                                have hb := below_regrown wq dq osq
                                                generalize grow (redrawn wq dq) osq = wk0 at hb ⊢
                                                clear qk
                                                replace HB := Lib.hid (below_step hb HB.out (Nat.le_trans (Nat.le_succ _) LG.out))
                                                replace HQ := Lib.hid (HQ.out.below hb)
                                                replace RC := Lib.hid (RC.out.below hb LC.out)
                                                replace LC : Hid (c < wk0.heap.size) := Nat.lt_of_lt_of_le LC.out hb.size
                                                replace RL := Lib.hid (RL.out.below hb LG.out)
                                                replace LG : Hid (w.heap.size < wk0.heap.size) := Nat.lt_of_lt_of_le LG.out hb.size
                                                clear hb
                                                go_wp2_with fail
                                                refine (CL0.out _ HQ.out).mono ?_; rintro e wp0 ⟨rfl, hb⟩
                                                replace HB := Lib.hid (below_step hb HB.out (Nat.le_trans (Nat.le_succ _) LG.out))
                                                replace HQ := Lib.hid (HQ.out.below hb)
                                                replace RC := Lib.hid (RC.out.below hb LC.out)
                                                replace LC : Hid (c < wp0.heap.size) := Nat.lt_of_lt_of_le LC.out hb.size
                                                replace RL := Lib.hid (RL.out.below hb LG.out)
                                                replace LG : Hid (w.heap.size < wp0.heap.size) := Nat.lt_of_lt_of_le LG.out hb.size
                                                clear hb
                                                cases ck0
                                                · go_wp2_with fail
                                                  refine (CX.out _).mono ?_; rintro e wq ⟨rfl, h⟩; replace h := h.symm; subst h
                                                  go_wp2_with (refine wpList_store_rowP (fun wx => Below w.heap.size w wx ∧ Row wx w.heap.size 45 (lf4 0 0 0 0)) rfl 45 _ _ rfl w.heap.size (lf4 0 0 0 0) rfl rfl 45 (lf4 0 0 0 0) RL.out (info_lr _ _ _ _) rfl (one_lf _ _ _ _) ⟨below_setRow HB.out (Nat.le_refl _) _, RL.out.setRow _⟩ ?_; rintro wz ⟨hb2, hr2⟩)
                                                  (try simp only [Exit.inBlock, Exit.then])
                                                  refine bodyPost_ret (results_row2 rfl _ _ w.heap.size 45 (lf4 0 0 0 0) (0, 0) _ rfl hr2 Tryz.underlying45 rfl (info_lr _ _ _ _)) rfl ?_
                                                  exact ⟨by rw [show r = _ from (ER.out.trans (E2.out.trans (E1.out.trans E0.out)))]; rfl, hb2⟩
                                                · cases pl0
                                                  · go_wp2_with fail
                                                    refine (CX.out _).mono ?_; rintro e wq ⟨rfl, h⟩; replace h := h.symm; subst h
                                                    go_wp2_with (refine wpList_store_rowP (fun wx => Below w.heap.size w wx ∧ Row wx w.heap.size 45 (lf4 0 0 0 0)) rfl 45 _ _ rfl w.heap.size (lf4 0 0 0 0) rfl rfl 45 (lf4 0 0 0 0) RL.out (info_lr _ _ _ _) rfl (one_lf _ _ _ _) ⟨below_setRow HB.out (Nat.le_refl _) _, RL.out.setRow _⟩ ?_; rintro wz ⟨hb2, hr2⟩)
                                                    (try simp only [Exit.inBlock, Exit.then])
                                                    refine bodyPost_ret (results_row2 rfl _ _ w.heap.size 45 (lf4 0 0 0 0) (0, 0) _ rfl hr2 Tryz.underlying45 rfl (info_lr _ _ _ _)) rfl ?_
                                                    exact ⟨by rw [show r = _ from (ER.out.trans (E2.out.trans (E1.out.trans E0.out)))]; rfl, hb2⟩
                                                  · have hm := HQ.out.cell
                                                    go_wp2_with fail
                                                    refine (CR0.out _ HQ.out).mono ?_; rintro e wr0 ⟨rfl, hb⟩
                                                    clear hm
                                                    replace HB := Lib.hid (below_step hb HB.out (Nat.le_trans (Nat.le_succ _) LG.out))
                                                    replace HQ := Lib.hid (HQ.out.below hb)
                                                    replace RC := Lib.hid (RC.out.below hb LC.out)
                                                    replace LC : Hid (c < wr0.heap.size) := Nat.lt_of_lt_of_le LC.out hb.size
                                                    replace RL := Lib.hid (RL.out.below hb LG.out)
                                                    replace LG : Hid (w.heap.size < wr0.heap.size) := Nat.lt_of_lt_of_le LG.out hb.size
                                                    clear hb
                                                    go_wp2_with fail
                                                    refine ((CB0.out _).1).mono ?_; rintro e wq ⟨rfl, h⟩; replace h := h.symm; subst h
                                                    go_wp2_with fail
                                                    refine ((CB0.out _).2.1).mono ?_; rintro e wq ⟨rfl, h⟩; replace h := h.symm; subst h
                                                    go_wp2_with fail
                                                    refine ((CB0.out _).2.2.1).mono ?_; rintro e wq ⟨rfl, h⟩; replace h := h.symm; subst h
                                                    go_wp2_with fail
                                                    refine ((CB0.out _).2.2.2).mono ?_; rintro e wq ⟨rfl, h⟩; replace h := h.symm; subst h
                                                    cases v0
                                                    · go_wp2_with fail
                                                      refine (CP.out _).mono ?_; rintro e wq ⟨rfl, h⟩; replace h := h.symm; subst h
                                                      go_wp2_with (refine wpList_store_rowP (fun wx => Below w.heap.size w wx ∧ Row wx w.heap.size 45 (lf4 0 0 0 0)) rfl 45 _ _ rfl w.heap.size (lf4 0 0 0 0) rfl rfl 45 (lf4 0 0 0 0) RL.out (info_lr _ _ _ _) rfl (one_lf _ _ _ _) ⟨below_setRow HB.out (Nat.le_refl _) _, RL.out.setRow _⟩ ?_; rintro wz ⟨hb2, hr2⟩)
                                                      (try simp only [Exit.inBlock, Exit.then])
                                                      refine bodyPost_ret (results_row2 rfl _ _ w.heap.size 45 (lf4 0 0 0 0) (0, 0) _ rfl hr2 Tryz.underlying45 rfl (info_lr _ _ _ _)) rfl ?_
                                                      exact ⟨by rw [show r = _ from (ER.out.trans (E2.out.trans (E1.out.trans E0.out)))]; rfl, hb2⟩
                                                    · cases o0
                                                      · go_wp2_with fail
                                                        refine (CH0.out _).mono ?_; rintro e wq ⟨rfl, h⟩; replace h := h.symm; subst h
                                                        have fh := FH0.out
                                                        cases hb0
                                                        · go_wp2_with fail
                                                          refine (CT0.out _).mono ?_; rintro e wq ⟨rfl, h⟩; replace h := h.symm; subst h
                                                          clear fh
                                                          cases y0
                                                          · cases e0
                                                            · go_wp2_with fail
                                                              refine ((CU0.out _).1).mono ?_; rintro e wq ⟨rfl, h⟩; replace h := h.symm; subst h
                                                              go_wp2_with fail
                                                              refine ((CU0.out _).2.1).mono ?_; rintro e wq ⟨rfl, h⟩; replace h := h.symm; subst h
                                                              go_wp2_with fail
                                                              refine ((CU0.out _).2.2).mono ?_; rintro e wq ⟨rfl, h⟩; replace h := h.symm; subst h
                                                              cases u0
                                                              · cases q0
                                                                · cases d0
                                                                  · clear CQ0 FF0 CK0 CL0 CR0 CB0 CU0 CH0 FH0 CT0 CA0 FB0 FA0
                                                                    go_wp2_with fail
                                                                    rw [rounds_succ]
                                                                    go_wp2_with fail
                                                                    refine (CP.out _).mono ?_; rintro e wq ⟨rfl, h⟩; replace h := h.symm; subst h
                                                                    go_wp2_with (refine wpList_store_rowP (fun wx => Below w.heap.size w wx ∧ Row wx w.heap.size 45 (lf4 0 0 0 0)) rfl 45 _ _ rfl w.heap.size (lf4 0 0 0 0) rfl rfl 45 (lf4 0 0 0 0) RL.out (info_lr _ _ _ _) rfl (one_lf _ _ _ _) ⟨below_setRow HB.out (Nat.le_refl _) _, RL.out.setRow _⟩ ?_; rintro wz ⟨hb2, hr2⟩)
                                                                    (try simp only [Exit.inBlock, Exit.then])
                                                                    refine bodyPost_ret (results_row2 rfl _ _ w.heap.size 45 (lf4 0 0 0 0) (0, 0) _ rfl hr2 Tryz.underlying45 rfl (info_lr _ _ _ _)) rfl ?_
                                                                    exact ⟨by rw [show r = _ from (ER.out.trans (E2.out.trans (E1.out.trans E0.out)))]; rfl, hb2⟩
                                                                  · go_wp2_with fail
                                                                    refine (CP.out _).mono ?_; rintro e wq ⟨rfl, h⟩; replace h := h.symm; subst h
                                                                    go_wp2_with (refine wpList_store_rowP (fun wx => Below w.heap.size w wx ∧ Row wx w.heap.size 45 (lf4 0 0 0 0)) rfl 45 _ _ rfl w.heap.size (lf4 0 0 0 0) rfl rfl 45 (lf4 0 0 0 0) RL.out (info_lr _ _ _ _) rfl (one_lf _ _ _ _) ⟨below_setRow HB.out (Nat.le_refl _) _, RL.out.setRow _⟩ ?_; rintro wz ⟨hb2, hr2⟩)
                                                                    (try simp only [Exit.inBlock, Exit.then])
                                                                    refine bodyPost_ret (results_row2 rfl _ _ w.heap.size 45 (lf4 0 0 0 0) (0, 0) _ rfl hr2 Tryz.underlying45 rfl (info_lr _ _ _ _)) rfl ?_
                                                                    exact ⟨by rw [show r = _ from (ER.out.trans (E2.out.trans (E1.out.trans E0.out)))]; rfl, hb2⟩
                                                                · go_wp2_with fail
                                                                  refine (CP.out _).mono ?_; rintro e wq ⟨rfl, h⟩; replace h := h.symm; subst h
                                                                  go_wp2_with (refine wpList_store_rowP (fun wx => Below w.heap.size w wx ∧ Row wx w.heap.size 45 (lf4 0 0 0 0)) rfl 45 _ _ rfl w.heap.size (lf4 0 0 0 0) rfl rfl 45 (lf4 0 0 0 0) RL.out (info_lr _ _ _ _) rfl (one_lf _ _ _ _) ⟨below_setRow HB.out (Nat.le_refl _) _, RL.out.setRow _⟩ ?_; rintro wz ⟨hb2, hr2⟩)
                                                                  (try simp only [Exit.inBlock, Exit.then])
                                                                  refine bodyPost_ret (results_row2 rfl _ _ w.heap.size 45 (lf4 0 0 0 0) (0, 0) _ rfl hr2 Tryz.underlying45 rfl (info_lr _ _ _ _)) rfl ?_
                                                                  exact ⟨by rw [show r = _ from (ER.out.trans (E2.out.trans (E1.out.trans E0.out)))]; rfl, hb2⟩
                                                              · go_wp2_with fail
                                                                refine (CP.out _).mono ?_; rintro e wq ⟨rfl, h⟩; replace h := h.symm; subst h
                                                                go_wp2_with (refine wpList_store_rowP (fun wx => Below w.heap.size w wx ∧ Row wx w.heap.size 45 (lf4 0 0 0 0)) rfl 45 _ _ rfl w.heap.size (lf4 0 0 0 0) rfl rfl 45 (lf4 0 0 0 0) RL.out (info_lr _ _ _ _) rfl (one_lf _ _ _ _) ⟨below_setRow HB.out (Nat.le_refl _) _, RL.out.setRow _⟩ ?_; rintro wz ⟨hb2, hr2⟩)
                                                                (try simp only [Exit.inBlock, Exit.then])
                                                                refine bodyPost_ret (results_row2 rfl _ _ w.heap.size 45 (lf4 0 0 0 0) (0, 0) _ rfl hr2 Tryz.underlying45 rfl (info_lr _ _ _ _)) rfl ?_
                                                                exact ⟨by rw [show r = _ from (ER.out.trans (E2.out.trans (E1.out.trans E0.out)))]; rfl, hb2⟩
                                                            · go_wp2_with fail
                                                              refine (CA0.out _ RC.out).mono ?_; rintro e wq ⟨rfl, h⟩; replace h := h.symm; subst h
                                                              have fb := FB0.out
                                                              have fa := FA0.out
                                                              cases al0
                                                              · go_wp2_with fail
                                                                refine (CP.out _).mono ?_; rintro e wq ⟨rfl, h⟩; replace h := h.symm; subst h
                                                                go_wp2_with (refine wpList_store_rowP (fun wx => Below w.heap.size w wx ∧ Row wx w.heap.size 45 (lf4 0 0 0 0)) rfl 45 _ _ rfl w.heap.size (lf4 0 0 0 0) rfl rfl 45 (lf4 0 0 0 0) RL.out (info_lr _ _ _ _) rfl (one_lf _ _ _ _) ⟨below_setRow HB.out (Nat.le_refl _) _, RL.out.setRow _⟩ ?_; rintro wz ⟨hb2, hr2⟩)
                                                                (try simp only [Exit.inBlock, Exit.then])
                                                                refine bodyPost_ret (results_row2 rfl _ _ w.heap.size 45 (lf4 0 0 0 0) (0, 0) _ rfl hr2 Tryz.underlying45 rfl (info_lr _ _ _ _)) rfl ?_
                                                                exact ⟨by rw [show r = _ from (ER.out.trans (E2.out.trans (E1.out.trans E0.out)))]; rfl, hb2⟩
                                                              · cases nb0
                                                                · go_wp2_with (refine wpList_store_rowP (fun wx => Below w.heap.size w wx ∧ Row wx w.heap.size 45 (lf4 a0 0 z0 f0)) rfl 45 _ _ rfl w.heap.size (lf4 a0 0 z0 f0) rfl rfl 45 (lf4 0 0 0 0) RL.out (info_lr _ _ _ _) rfl (one_lf _ _ _ _) ⟨below_setRow HB.out (Nat.le_refl _) _, RL.out.setRow _⟩ ?_; rintro wz ⟨hb2, hr2⟩)
                                                                  (try simp only [Exit.inBlock, Exit.then])
                                                                  refine bodyPost_ret (results_row2 rfl _ _ w.heap.size 45 (lf4 a0 0 z0 f0) (0, 0) _ rfl hr2 Tryz.underlying45 rfl (info_lr _ _ _ _)) rfl ?_
                                                                  exact ⟨by rw [show r = _ from (ER.out.trans (E2.out.trans (E1.out.trans E0.out)))]; rfl, hb2⟩
                                                                · go_wp2_with fail
                                                                  refine (CP.out _).mono ?_; rintro e wq ⟨rfl, h⟩; replace h := h.symm; subst h
                                                                  go_wp2_with (refine wpList_store_rowP (fun wx => Below w.heap.size w wx ∧ Row wx w.heap.size 45 (lf4 0 0 0 0)) rfl 45 _ _ rfl w.heap.size (lf4 0 0 0 0) rfl rfl 45 (lf4 0 0 0 0) RL.out (info_lr _ _ _ _) rfl (one_lf _ _ _ _) ⟨below_setRow HB.out (Nat.le_refl _) _, RL.out.setRow _⟩ ?_; rintro wz ⟨hb2, hr2⟩)
                                                                  (try simp only [Exit.inBlock, Exit.then])
                                                                  refine bodyPost_ret (results_row2 rfl _ _ w.heap.size 45 (lf4 0 0 0 0) (0, 0) _ rfl hr2 Tryz.underlying45 rfl (info_lr _ _ _ _)) rfl ?_
                                                                  exact ⟨by rw [show r = _ from (ER.out.trans (E2.out.trans (E1.out.trans E0.out)))]; rfl, hb2⟩
                                                          · go_wp2_with fail
                                                            refine (CA0.out _ RC.out).mono ?_; rintro e wq ⟨rfl, h⟩; replace h := h.symm; subst h
                                                            have fb := FB0.out
                                                            have fa := FA0.out
                                                            cases al0
                                                            · go_wp2_with fail
                                                              refine (CP.out _).mono ?_; rintro e wq ⟨rfl, h⟩; replace h := h.symm; subst h
                                                              go_wp2_with (refine wpList_store_rowP (fun wx => Below w.heap.size w wx ∧ Row wx w.heap.size 45 (lf4 0 0 0 0)) rfl 45 _ _ rfl w.heap.size (lf4 0 0 0 0) rfl rfl 45 (lf4 0 0 0 0) RL.out (info_lr _ _ _ _) rfl (one_lf _ _ _ _) ⟨below_setRow HB.out (Nat.le_refl _) _, RL.out.setRow _⟩ ?_; rintro wz ⟨hb2, hr2⟩)
                                                              (try simp only [Exit.inBlock, Exit.then])
                                                              refine bodyPost_ret (results_row2 rfl _ _ w.heap.size 45 (lf4 0 0 0 0) (0, 0) _ rfl hr2 Tryz.underlying45 rfl (info_lr _ _ _ _)) rfl ?_
                                                              exact ⟨by rw [show r = _ from (ER.out.trans (E2.out.trans (E1.out.trans E0.out)))]; rfl, hb2⟩
                                                            · cases nb0
                                                              · go_wp2_with (refine wpList_store_rowP (fun wx => Below w.heap.size w wx ∧ Row wx w.heap.size 45 (lf4 a0 0 z0 f0)) rfl 45 _ _ rfl w.heap.size (lf4 a0 0 z0 f0) rfl rfl 45 (lf4 0 0 0 0) RL.out (info_lr _ _ _ _) rfl (one_lf _ _ _ _) ⟨below_setRow HB.out (Nat.le_refl _) _, RL.out.setRow _⟩ ?_; rintro wz ⟨hb2, hr2⟩)
                                                                (try simp only [Exit.inBlock, Exit.then])
                                                                refine bodyPost_ret (results_row2 rfl _ _ w.heap.size 45 (lf4 a0 0 z0 f0) (0, 0) _ rfl hr2 Tryz.underlying45 rfl (info_lr _ _ _ _)) rfl ?_
                                                                exact ⟨by rw [show r = _ from (ER.out.trans (E2.out.trans (E1.out.trans E0.out)))]; rfl, hb2⟩
                                                              · go_wp2_with fail
                                                                refine (CP.out _).mono ?_; rintro e wq ⟨rfl, h⟩; replace h := h.symm; subst h
                                                                go_wp2_with (refine wpList_store_rowP (fun wx => Below w.heap.size w wx ∧ Row wx w.heap.size 45 (lf4 0 0 0 0)) rfl 45 _ _ rfl w.heap.size (lf4 0 0 0 0) rfl rfl 45 (lf4 0 0 0 0) RL.out (info_lr _ _ _ _) rfl (one_lf _ _ _ _) ⟨below_setRow HB.out (Nat.le_refl _) _, RL.out.setRow _⟩ ?_; rintro wz ⟨hb2, hr2⟩)
                                                                (try simp only [Exit.inBlock, Exit.then])
                                                                refine bodyPost_ret (results_row2 rfl _ _ w.heap.size 45 (lf4 0 0 0 0) (0, 0) _ rfl hr2 Tryz.underlying45 rfl (info_lr _ _ _ _)) rfl ?_
                                                                exact ⟨by rw [show r = _ from (ER.out.trans (E2.out.trans (E1.out.trans E0.out)))]; rfl, hb2⟩
                                                        · go_wp2_with fail
                                                          refine (CP.out _).mono ?_; rintro e wq ⟨rfl, h⟩; replace h := h.symm; subst h
                                                          go_wp2_with (refine wpList_store_rowP (fun wx => Below w.heap.size w wx ∧ Row wx w.heap.size 45 (lf4 0 0 0 0)) rfl 45 _ _ rfl w.heap.size (lf4 0 0 0 0) rfl rfl 45 (lf4 0 0 0 0) RL.out (info_lr _ _ _ _) rfl (one_lf _ _ _ _) ⟨below_setRow HB.out (Nat.le_refl _) _, RL.out.setRow _⟩ ?_; rintro wz ⟨hb2, hr2⟩)
                                                          (try simp only [Exit.inBlock, Exit.then])
                                                          refine bodyPost_ret (results_row2 rfl _ _ w.heap.size 45 (lf4 0 0 0 0) (0, 0) _ rfl hr2 Tryz.underlying45 rfl (info_lr _ _ _ _)) rfl ?_
                                                          exact ⟨by rw [show r = _ from (ER.out.trans (E2.out.trans (E1.out.trans E0.out)))]; rfl, hb2⟩
                                                      · cases y0
                                                        · go_wp2_with fail
                                                          refine (CP.out _).mono ?_; rintro e wq ⟨rfl, h⟩; replace h := h.symm; subst h
                                                          go_wp2_with (refine wpList_store_rowP (fun wx => Below w.heap.size w wx ∧ Row wx w.heap.size 45 (lf4 0 0 0 0)) rfl 45 _ _ rfl w.heap.size (lf4 0 0 0 0) rfl rfl 45 (lf4 0 0 0 0) RL.out (info_lr _ _ _ _) rfl (one_lf _ _ _ _) ⟨below_setRow HB.out (Nat.le_refl _) _, RL.out.setRow _⟩ ?_; rintro wz ⟨hb2, hr2⟩)
                                                          (try simp only [Exit.inBlock, Exit.then])
                                                          refine bodyPost_ret (results_row2 rfl _ _ w.heap.size 45 (lf4 0 0 0 0) (0, 0) _ rfl hr2 Tryz.underlying45 rfl (info_lr _ _ _ _)) rfl ?_
                                                          exact ⟨by rw [show r = _ from (ER.out.trans (E2.out.trans (E1.out.trans E0.out)))]; rfl, hb2⟩
                                                        · go_wp2_with fail
                                                          refine (CH0.out _).mono ?_; rintro e wq ⟨rfl, h⟩; replace h := h.symm; subst h
                                                          have fh := FH0.out
                                                          cases hb0
                                                          · go_wp2_with fail
                                                            refine (CT0.out _).mono ?_; rintro e wq ⟨rfl, h⟩; replace h := h.symm; subst h
                                                            clear fh
                                                            go_wp2_with fail
                                                            refine (CA0.out _ RC.out).mono ?_; rintro e wq ⟨rfl, h⟩; replace h := h.symm; subst h
                                                            have fb := FB0.out
                                                            have fa := FA0.out
                                                            cases al0
                                                            · go_wp2_with fail
                                                              refine (CP.out _).mono ?_; rintro e wq ⟨rfl, h⟩; replace h := h.symm; subst h
                                                              go_wp2_with (refine wpList_store_rowP (fun wx => Below w.heap.size w wx ∧ Row wx w.heap.size 45 (lf4 0 0 0 0)) rfl 45 _ _ rfl w.heap.size (lf4 0 0 0 0) rfl rfl 45 (lf4 0 0 0 0) RL.out (info_lr _ _ _ _) rfl (one_lf _ _ _ _) ⟨below_setRow HB.out (Nat.le_refl _) _, RL.out.setRow _⟩ ?_; rintro wz ⟨hb2, hr2⟩)
                                                              (try simp only [Exit.inBlock, Exit.then])
                                                              refine bodyPost_ret (results_row2 rfl _ _ w.heap.size 45 (lf4 0 0 0 0) (0, 0) _ rfl hr2 Tryz.underlying45 rfl (info_lr _ _ _ _)) rfl ?_
                                                              exact ⟨by rw [show r = _ from (ER.out.trans (E2.out.trans (E1.out.trans E0.out)))]; rfl, hb2⟩
                                                            · cases nb0
                                                              · go_wp2_with (refine wpList_store_rowP (fun wx => Below w.heap.size w wx ∧ Row wx w.heap.size 45 (lf4 a0 0 z0 f0)) rfl 45 _ _ rfl w.heap.size (lf4 a0 0 z0 f0) rfl rfl 45 (lf4 0 0 0 0) RL.out (info_lr _ _ _ _) rfl (one_lf _ _ _ _) ⟨below_setRow HB.out (Nat.le_refl _) _, RL.out.setRow _⟩ ?_; rintro wz ⟨hb2, hr2⟩)
                                                                (try simp only [Exit.inBlock, Exit.then])
                                                                refine bodyPost_ret (results_row2 rfl _ _ w.heap.size 45 (lf4 a0 0 z0 f0) (0, 0) _ rfl hr2 Tryz.underlying45 rfl (info_lr _ _ _ _)) rfl ?_
                                                                exact ⟨by rw [show r = _ from (ER.out.trans (E2.out.trans (E1.out.trans E0.out)))]; rfl, hb2⟩
                                                              · go_wp2_with fail
                                                                refine (CP.out _).mono ?_; rintro e wq ⟨rfl, h⟩; replace h := h.symm; subst h
                                                                go_wp2_with (refine wpList_store_rowP (fun wx => Below w.heap.size w wx ∧ Row wx w.heap.size 45 (lf4 0 0 0 0)) rfl 45 _ _ rfl w.heap.size (lf4 0 0 0 0) rfl rfl 45 (lf4 0 0 0 0) RL.out (info_lr _ _ _ _) rfl (one_lf _ _ _ _) ⟨below_setRow HB.out (Nat.le_refl _) _, RL.out.setRow _⟩ ?_; rintro wz ⟨hb2, hr2⟩)
                                                                (try simp only [Exit.inBlock, Exit.then])
                                                                refine bodyPost_ret (results_row2 rfl _ _ w.heap.size 45 (lf4 0 0 0 0) (0, 0) _ rfl hr2 Tryz.underlying45 rfl (info_lr _ _ _ _)) rfl ?_
                                                                exact ⟨by rw [show r = _ from (ER.out.trans (E2.out.trans (E1.out.trans E0.out)))]; rfl, hb2⟩
                                                          · go_wp2_with fail
                                                            refine (CP.out _).mono ?_; rintro e wq ⟨rfl, h⟩; replace h := h.symm; subst h
                                                            go_wp2_with (refine wpList_store_rowP (fun wx => Below w.heap.size w wx ∧ Row wx w.heap.size 45 (lf4 0 0 0 0)) rfl 45 _ _ rfl w.heap.size (lf4 0 0 0 0) rfl rfl 45 (lf4 0 0 0 0) RL.out (info_lr _ _ _ _) rfl (one_lf _ _ _ _) ⟨below_setRow HB.out (Nat.le_refl _) _, RL.out.setRow _⟩ ?_; rintro wz ⟨hb2, hr2⟩)
                                                            (try simp only [Exit.inBlock, Exit.then])
                                                            refine bodyPost_ret (results_row2 rfl _ _ w.heap.size 45 (lf4 0 0 0 0) (0, 0) _ rfl hr2 Tryz.underlying45 rfl (info_lr _ _ _ _)) rfl ?_
                                                            exact ⟨by rw [show r = _ from (ER.out.trans (E2.out.trans (E1.out.trans E0.out)))]; rfl, hb2⟩
                                              · go_wp2_with fail
                                                refine (CP.out _).mono ?_; rintro e wq ⟨rfl, h⟩; replace h := h.symm; subst h
                                                go_wp2_with (refine wpList_store_rowP (fun wx => Below w.heap.size w wx ∧ Row wx w.heap.size 45 (lf4 0 0 0 0)) rfl 45 _ _ rfl w.heap.size (lf4 0 0 0 0) rfl rfl 45 (lf4 0 0 0 0) RL.out (info_lr _ _ _ _) rfl (one_lf _ _ _ _) ⟨below_setRow HB.out (Nat.le_refl _) _, RL.out.setRow _⟩ ?_; rintro wz ⟨hb2, hr2⟩)
                                                (try simp only [Exit.inBlock, Exit.then])
                                                refine bodyPost_ret (results_row2 rfl _ _ w.heap.size 45 (lf4 0 0 0 0) (0, 0) _ rfl hr2 Tryz.underlying45 rfl (info_lr _ _ _ _)) rfl ?_
                                                exact ⟨by rw [show r = _ from (ER.out.trans (E2.out.trans E1.out))]; rfl, hb2⟩
                                            · go_wp2_with fail
                                              refine (CP.out _).mono ?_; rintro e wq ⟨rfl, h⟩; replace h := h.symm; subst h
                                              go_wp2_with (refine wpList_store_rowP (fun wx => Below w.heap.size w wx ∧ Row wx w.heap.size 45 (lf4 0 0 0 0)) rfl 45 _ _ rfl w.heap.size (lf4 0 0 0 0) rfl rfl 45 (lf4 0 0 0 0) RL.out (info_lr _ _ _ _) rfl (one_lf _ _ _ _) ⟨below_setRow HB.out (Nat.le_refl _) _, RL.out.setRow _⟩ ?_; rintro wz ⟨hb2, hr2⟩)
                                              (try simp only [Exit.inBlock, Exit.then])
                                              refine bodyPost_ret (results_row2 rfl _ _ w.heap.size 45 (lf4 0 0 0 0) (0, 0) _ rfl hr2 Tryz.underlying45 rfl (info_lr _ _ _ _)) rfl ?_
                                              exact ⟨by rw [show r = _ from (ER.out.trans (E2.out.trans E1.out))]; rfl, hb2⟩
                                          · go_wp2_with fail
                                            refine (CP.out _).mono ?_; rintro e wq ⟨rfl, h⟩; replace h := h.symm; subst h
                                            go_wp2_with (refine wpList_store_rowP (fun wx => Below w.heap.size w wx ∧ Row wx w.heap.size 45 (lf4 0 0 0 0)) rfl 45 _ _ rfl w.heap.size (lf4 0 0 0 0) rfl rfl 45 (lf4 0 0 0 0) RL.out (info_lr _ _ _ _) rfl (one_lf _ _ _ _) ⟨below_setRow HB.out (Nat.le_refl _) _, RL.out.setRow _⟩ ?_; rintro wz ⟨hb2, hr2⟩)
                                            (try simp only [Exit.inBlock, Exit.then])
                                            refine bodyPost_ret (results_row2 rfl _ _ w.heap.size 45 (lf4 0 0 0 0) (0, 0) _ rfl hr2 Tryz.underlying45 rfl (info_lr _ _ _ _)) rfl ?_
                                            exact ⟨by rw [show r = _ from (ER.out.trans (E2.out.trans E1.out))]; rfl, hb2⟩
                                        · go_wp2_with fail
                                          refine (CA1.out _ RC.out).mono ?_; rintro e wq ⟨rfl, h⟩; replace h := h.symm; subst h
                                          have fb := FB1.out
                                          have fa := FA1.out
                                          cases al1
                                          · go_wp2_with fail
                                            refine (CP.out _).mono ?_; rintro e wq ⟨rfl, h⟩; replace h := h.symm; subst h
                                            go_wp2_with (refine wpList_store_rowP (fun wx => Below w.heap.size w wx ∧ Row wx w.heap.size 45 (lf4 0 0 0 0)) rfl 45 _ _ rfl w.heap.size (lf4 0 0 0 0) rfl rfl 45 (lf4 0 0 0 0) RL.out (info_lr _ _ _ _) rfl (one_lf _ _ _ _) ⟨below_setRow HB.out (Nat.le_refl _) _, RL.out.setRow _⟩ ?_; rintro wz ⟨hb2, hr2⟩)
                                            (try simp only [Exit.inBlock, Exit.then])
                                            refine bodyPost_ret (results_row2 rfl _ _ w.heap.size 45 (lf4 0 0 0 0) (0, 0) _ rfl hr2 Tryz.underlying45 rfl (info_lr _ _ _ _)) rfl ?_
                                            exact ⟨by rw [show r = _ from (ER.out.trans (E2.out.trans E1.out))]; rfl, hb2⟩
                                          · cases nb1
                                            · go_wp2_with (refine wpList_store_rowP (fun wx => Below w.heap.size w wx ∧ Row wx w.heap.size 45 (lf4 a1 1 z1 f1)) rfl 45 _ _ rfl w.heap.size (lf4 a1 1 z1 f1) rfl rfl 45 (lf4 0 0 0 0) RL.out (info_lr _ _ _ _) rfl (one_lf _ _ _ _) ⟨below_setRow HB.out (Nat.le_refl _) _, RL.out.setRow _⟩ ?_; rintro wz ⟨hb2, hr2⟩)
                                              (try simp only [Exit.inBlock, Exit.then])
                                              refine bodyPost_ret (results_row2 rfl _ _ w.heap.size 45 (lf4 a1 1 z1 f1) (0, 0) _ rfl hr2 Tryz.underlying45 rfl (info_lr _ _ _ _)) rfl ?_
                                              exact ⟨by rw [show r = _ from (ER.out.trans (E2.out.trans E1.out))]; rfl, hb2⟩
                                            · go_wp2_with fail
                                              refine (CP.out _).mono ?_; rintro e wq ⟨rfl, h⟩; replace h := h.symm; subst h
                                              go_wp2_with (refine wpList_store_rowP (fun wx => Below w.heap.size w wx ∧ Row wx w.heap.size 45 (lf4 0 0 0 0)) rfl 45 _ _ rfl w.heap.size (lf4 0 0 0 0) rfl rfl 45 (lf4 0 0 0 0) RL.out (info_lr _ _ _ _) rfl (one_lf _ _ _ _) ⟨below_setRow HB.out (Nat.le_refl _) _, RL.out.setRow _⟩ ?_; rintro wz ⟨hb2, hr2⟩)
                                              (try simp only [Exit.inBlock, Exit.then])
                                              refine bodyPost_ret (results_row2 rfl _ _ w.heap.size 45 (lf4 0 0 0 0) (0, 0) _ rfl hr2 Tryz.underlying45 rfl (info_lr _ _ _ _)) rfl ?_
                                              exact ⟨by rw [show r = _ from (ER.out.trans (E2.out.trans E1.out))]; rfl, hb2⟩
                                      · go_wp2_with fail
                                        refine (CA1.out _ RC.out).mono ?_; rintro e wq ⟨rfl, h⟩; replace h := h.symm; subst h
                                        have fb := FB1.out
                                        have fa := FA1.out
                                        cases al1
                                        · go_wp2_with fail
                                          refine (CP.out _).mono ?_; rintro e wq ⟨rfl, h⟩; replace h := h.symm; subst h
                                          go_wp2_with (refine wpList_store_rowP (fun wx => Below w.heap.size w wx ∧ Row wx w.heap.size 45 (lf4 0 0 0 0)) rfl 45 _ _ rfl w.heap.size (lf4 0 0 0 0) rfl rfl 45 (lf4 0 0 0 0) RL.out (info_lr _ _ _ _) rfl (one_lf _ _ _ _) ⟨below_setRow HB.out (Nat.le_refl _) _, RL.out.setRow _⟩ ?_; rintro wz ⟨hb2, hr2⟩)
                                          (try simp only [Exit.inBlock, Exit.then])
                                          refine bodyPost_ret (results_row2 rfl _ _ w.heap.size 45 (lf4 0 0 0 0) (0, 0) _ rfl hr2 Tryz.underlying45 rfl (info_lr _ _ _ _)) rfl ?_
                                          exact ⟨by rw [show r = _ from (ER.out.trans (E2.out.trans E1.out))]; rfl, hb2⟩
                                        · cases nb1
                                          · go_wp2_with (refine wpList_store_rowP (fun wx => Below w.heap.size w wx ∧ Row wx w.heap.size 45 (lf4 a1 1 z1 f1)) rfl 45 _ _ rfl w.heap.size (lf4 a1 1 z1 f1) rfl rfl 45 (lf4 0 0 0 0) RL.out (info_lr _ _ _ _) rfl (one_lf _ _ _ _) ⟨below_setRow HB.out (Nat.le_refl _) _, RL.out.setRow _⟩ ?_; rintro wz ⟨hb2, hr2⟩)
                                            (try simp only [Exit.inBlock, Exit.then])
                                            refine bodyPost_ret (results_row2 rfl _ _ w.heap.size 45 (lf4 a1 1 z1 f1) (0, 0) _ rfl hr2 Tryz.underlying45 rfl (info_lr _ _ _ _)) rfl ?_
                                            exact ⟨by rw [show r = _ from (ER.out.trans (E2.out.trans E1.out))]; rfl, hb2⟩
                                          · go_wp2_with fail
                                            refine (CP.out _).mono ?_; rintro e wq ⟨rfl, h⟩; replace h := h.symm; subst h
                                            go_wp2_with (refine wpList_store_rowP (fun wx => Below w.heap.size w wx ∧ Row wx w.heap.size 45 (lf4 0 0 0 0)) rfl 45 _ _ rfl w.heap.size (lf4 0 0 0 0) rfl rfl 45 (lf4 0 0 0 0) RL.out (info_lr _ _ _ _) rfl (one_lf _ _ _ _) ⟨below_setRow HB.out (Nat.le_refl _) _, RL.out.setRow _⟩ ?_; rintro wz ⟨hb2, hr2⟩)
                                            (try simp only [Exit.inBlock, Exit.then])
                                            refine bodyPost_ret (results_row2 rfl _ _ w.heap.size 45 (lf4 0 0 0 0) (0, 0) _ rfl hr2 Tryz.underlying45 rfl (info_lr _ _ _ _)) rfl ?_
                                            exact ⟨by rw [show r = _ from (ER.out.trans (E2.out.trans E1.out))]; rfl, hb2⟩
                                    · go_wp2_with fail
                                      refine (CP.out _).mono ?_; rintro e wq ⟨rfl, h⟩; replace h := h.symm; subst h
                                      go_wp2_with (refine wpList_store_rowP (fun wx => Below w.heap.size w wx ∧ Row wx w.heap.size 45 (lf4 0 0 0 0)) rfl 45 _ _ rfl w.heap.size (lf4 0 0 0 0) rfl rfl 45 (lf4 0 0 0 0) RL.out (info_lr _ _ _ _) rfl (one_lf _ _ _ _) ⟨below_setRow HB.out (Nat.le_refl _) _, RL.out.setRow _⟩ ?_; rintro wz ⟨hb2, hr2⟩)
                                      (try simp only [Exit.inBlock, Exit.then])
                                      refine bodyPost_ret (results_row2 rfl _ _ w.heap.size 45 (lf4 0 0 0 0) (0, 0) _ rfl hr2 Tryz.underlying45 rfl (info_lr _ _ _ _)) rfl ?_
                                      exact ⟨by rw [show r = _ from (ER.out.trans (E2.out.trans E1.out))]; rfl, hb2⟩
                                  · cases y1
                                    · go_wp2_with fail
                                      refine (CP.out _).mono ?_; rintro e wq ⟨rfl, h⟩; replace h := h.symm; subst h
                                      go_wp2_with (refine wpList_store_rowP (fun wx => Below w.heap.size w wx ∧ Row wx w.heap.size 45 (lf4 0 0 0 0)) rfl 45 _ _ rfl w.heap.size (lf4 0 0 0 0) rfl rfl 45 (lf4 0 0 0 0) RL.out (info_lr _ _ _ _) rfl (one_lf _ _ _ _) ⟨below_setRow HB.out (Nat.le_refl _) _, RL.out.setRow _⟩ ?_; rintro wz ⟨hb2, hr2⟩)
                                      (try simp only [Exit.inBlock, Exit.then])
                                      refine bodyPost_ret (results_row2 rfl _ _ w.heap.size 45 (lf4 0 0 0 0) (0, 0) _ rfl hr2 Tryz.underlying45 rfl (info_lr _ _ _ _)) rfl ?_
                                      exact ⟨by rw [show r = _ from (ER.out.trans (E2.out.trans E1.out))]; rfl, hb2⟩
                                    · go_wp2_with fail
                                      refine (CH1.out _).mono ?_; rintro e wq ⟨rfl, h⟩; replace h := h.symm; subst h
                                      have fh := FH1.out
                                      cases hb1
                                      · go_wp2_with fail
                                        refine (CT1.out _).mono ?_; rintro e wq ⟨rfl, h⟩; replace h := h.symm; subst h
                                        clear fh
                                        go_wp2_with fail
                                        refine (CA1.out _ RC.out).mono ?_; rintro e wq ⟨rfl, h⟩; replace h := h.symm; subst h
                                        have fb := FB1.out
                                        have fa := FA1.out
                                        cases al1
                                        · go_wp2_with fail
                                          refine (CP.out _).mono ?_; rintro e wq ⟨rfl, h⟩; replace h := h.symm; subst h
                                          go_wp2_with (refine wpList_store_rowP (fun wx => Below w.heap.size w wx ∧ Row wx w.heap.size 45 (lf4 0 0 0 0)) rfl 45 _ _ rfl w.heap.size (lf4 0 0 0 0) rfl rfl 45 (lf4 0 0 0 0) RL.out (info_lr _ _ _ _) rfl (one_lf _ _ _ _) ⟨below_setRow HB.out (Nat.le_refl _) _, RL.out.setRow _⟩ ?_; rintro wz ⟨hb2, hr2⟩)
                                          (try simp only [Exit.inBlock, Exit.then])
                                          refine bodyPost_ret (results_row2 rfl _ _ w.heap.size 45 (lf4 0 0 0 0) (0, 0) _ rfl hr2 Tryz.underlying45 rfl (info_lr _ _ _ _)) rfl ?_
                                          exact ⟨by rw [show r = _ from (ER.out.trans (E2.out.trans E1.out))]; rfl, hb2⟩
                                        · cases nb1
                                          · go_wp2_with (refine wpList_store_rowP (fun wx => Below w.heap.size w wx ∧ Row wx w.heap.size 45 (lf4 a1 1 z1 f1)) rfl 45 _ _ rfl w.heap.size (lf4 a1 1 z1 f1) rfl rfl 45 (lf4 0 0 0 0) RL.out (info_lr _ _ _ _) rfl (one_lf _ _ _ _) ⟨below_setRow HB.out (Nat.le_refl _) _, RL.out.setRow _⟩ ?_; rintro wz ⟨hb2, hr2⟩)
                                            (try simp only [Exit.inBlock, Exit.then])
                                            refine bodyPost_ret (results_row2 rfl _ _ w.heap.size 45 (lf4 a1 1 z1 f1) (0, 0) _ rfl hr2 Tryz.underlying45 rfl (info_lr _ _ _ _)) rfl ?_
                                            exact ⟨by rw [show r = _ from (ER.out.trans (E2.out.trans E1.out))]; rfl, hb2⟩
                                          · go_wp2_with fail
                                            refine (CP.out _).mono ?_; rintro e wq ⟨rfl, h⟩; replace h := h.symm; subst h
                                            go_wp2_with (refine wpList_store_rowP (fun wx => Below w.heap.size w wx ∧ Row wx w.heap.size 45 (lf4 0 0 0 0)) rfl 45 _ _ rfl w.heap.size (lf4 0 0 0 0) rfl rfl 45 (lf4 0 0 0 0) RL.out (info_lr _ _ _ _) rfl (one_lf _ _ _ _) ⟨below_setRow HB.out (Nat.le_refl _) _, RL.out.setRow _⟩ ?_; rintro wz ⟨hb2, hr2⟩)
                                            (try simp only [Exit.inBlock, Exit.then])
                                            refine bodyPost_ret (results_row2 rfl _ _ w.heap.size 45 (lf4 0 0 0 0) (0, 0) _ rfl hr2 Tryz.underlying45 rfl (info_lr _ _ _ _)) rfl ?_
                                            exact ⟨by rw [show r = _ from (ER.out.trans (E2.out.trans E1.out))]; rfl, hb2⟩
                                      · go_wp2_with fail
                                        refine (CP.out _).mono ?_; rintro e wq ⟨rfl, h⟩; replace h := h.symm; subst h
                                        go_wp2_with (refine wpList_store_rowP (fun wx => Below w.heap.size w wx ∧ Row wx w.heap.size 45 (lf4 0 0 0 0)) rfl 45 _ _ rfl w.heap.size (lf4 0 0 0 0) rfl rfl 45 (lf4 0 0 0 0) RL.out (info_lr _ _ _ _) rfl (one_lf _ _ _ _) ⟨below_setRow HB.out (Nat.le_refl _) _, RL.out.setRow _⟩ ?_; rintro wz ⟨hb2, hr2⟩)
                                        (try simp only [Exit.inBlock, Exit.then])
                                        refine bodyPost_ret (results_row2 rfl _ _ w.heap.size 45 (lf4 0 0 0 0) (0, 0) _ rfl hr2 Tryz.underlying45 rfl (info_lr _ _ _ _)) rfl ?_
                                        exact ⟨by rw [show r = _ from (ER.out.trans (E2.out.trans E1.out))]; rfl, hb2⟩
                          · go_wp2_with fail
                            refine (CP.out _).mono ?_; rintro e wq ⟨rfl, h⟩; replace h := h.symm; subst h
                            go_wp2_with (refine wpList_store_rowP (fun wx => Below w.heap.size w wx ∧ Row wx w.heap.size 45 (lf4 0 0 0 0)) rfl 45 _ _ rfl w.heap.size (lf4 0 0 0 0) rfl rfl 45 (lf4 0 0 0 0) RL.out (info_lr _ _ _ _) rfl (one_lf _ _ _ _) ⟨below_setRow HB.out (Nat.le_refl _) _, RL.out.setRow _⟩ ?_; rintro wz ⟨hb2, hr2⟩)
                            (try simp only [Exit.inBlock, Exit.then])
                            refine bodyPost_ret (results_row2 rfl _ _ w.heap.size 45 (lf4 0 0 0 0) (0, 0) _ rfl hr2 Tryz.underlying45 rfl (info_lr _ _ _ _)) rfl ?_
                            exact ⟨by rw [show r = _ from (ER.out.trans E2.out)]; rfl, hb2⟩
                        · go_wp2_with fail
                          refine (CP.out _).mono ?_; rintro e wq ⟨rfl, h⟩; replace h := h.symm; subst h
                          go_wp2_with (refine wpList_store_rowP (fun wx => Below w.heap.size w wx ∧ Row wx w.heap.size 45 (lf4 0 0 0 0)) rfl 45 _ _ rfl w.heap.size (lf4 0 0 0 0) rfl rfl 45 (lf4 0 0 0 0) RL.out (info_lr _ _ _ _) rfl (one_lf _ _ _ _) ⟨below_setRow HB.out (Nat.le_refl _) _, RL.out.setRow _⟩ ?_; rintro wz ⟨hb2, hr2⟩)
                          (try simp only [Exit.inBlock, Exit.then])
                          refine bodyPost_ret (results_row2 rfl _ _ w.heap.size 45 (lf4 0 0 0 0) (0, 0) _ rfl hr2 Tryz.underlying45 rfl (info_lr _ _ _ _)) rfl ?_
                          exact ⟨by rw [show r = _ from (ER.out.trans E2.out)]; rfl, hb2⟩
                      · go_wp2_with fail
                        refine (CP.out _).mono ?_; rintro e wq ⟨rfl, h⟩; replace h := h.symm; subst h
                        go_wp2_with (refine wpList_store_rowP (fun wx => Below w.heap.size w wx ∧ Row wx w.heap.size 45 (lf4 0 0 0 0)) rfl 45 _ _ rfl w.heap.size (lf4 0 0 0 0) rfl rfl 45 (lf4 0 0 0 0) RL.out (info_lr _ _ _ _) rfl (one_lf _ _ _ _) ⟨below_setRow HB.out (Nat.le_refl _) _, RL.out.setRow _⟩ ?_; rintro wz ⟨hb2, hr2⟩)
                        (try simp only [Exit.inBlock, Exit.then])
                        refine bodyPost_ret (results_row2 rfl _ _ w.heap.size 45 (lf4 0 0 0 0) (0, 0) _ rfl hr2 Tryz.underlying45 rfl (info_lr _ _ _ _)) rfl ?_
                        exact ⟨by rw [show r = _ from (ER.out.trans E2.out)]; rfl, hb2⟩
                    · go_wp2_with fail
                      refine (CA2.out _ RC.out).mono ?_; rintro e wq ⟨rfl, h⟩; replace h := h.symm; subst h
                      have fb := FB2.out
                      have fa := FA2.out
                      cases al2
                      · go_wp2_with fail
                        refine (CP.out _).mono ?_; rintro e wq ⟨rfl, h⟩; replace h := h.symm; subst h
                        go_wp2_with (refine wpList_store_rowP (fun wx => Below w.heap.size w wx ∧ Row wx w.heap.size 45 (lf4 0 0 0 0)) rfl 45 _ _ rfl w.heap.size (lf4 0 0 0 0) rfl rfl 45 (lf4 0 0 0 0) RL.out (info_lr _ _ _ _) rfl (one_lf _ _ _ _) ⟨below_setRow HB.out (Nat.le_refl _) _, RL.out.setRow _⟩ ?_; rintro wz ⟨hb2, hr2⟩)
                        (try simp only [Exit.inBlock, Exit.then])
                        refine bodyPost_ret (results_row2 rfl _ _ w.heap.size 45 (lf4 0 0 0 0) (0, 0) _ rfl hr2 Tryz.underlying45 rfl (info_lr _ _ _ _)) rfl ?_
                        exact ⟨by rw [show r = _ from (ER.out.trans E2.out)]; rfl, hb2⟩
                      · cases nb2
                        · go_wp2_with (refine wpList_store_rowP (fun wx => Below w.heap.size w wx ∧ Row wx w.heap.size 45 (lf4 a2 2 z2 f2)) rfl 45 _ _ rfl w.heap.size (lf4 a2 2 z2 f2) rfl rfl 45 (lf4 0 0 0 0) RL.out (info_lr _ _ _ _) rfl (one_lf _ _ _ _) ⟨below_setRow HB.out (Nat.le_refl _) _, RL.out.setRow _⟩ ?_; rintro wz ⟨hb2, hr2⟩)
                          (try simp only [Exit.inBlock, Exit.then])
                          refine bodyPost_ret (results_row2 rfl _ _ w.heap.size 45 (lf4 a2 2 z2 f2) (0, 0) _ rfl hr2 Tryz.underlying45 rfl (info_lr _ _ _ _)) rfl ?_
                          exact ⟨by rw [show r = _ from (ER.out.trans E2.out)]; rfl, hb2⟩
                        · go_wp2_with fail
                          refine (CP.out _).mono ?_; rintro e wq ⟨rfl, h⟩; replace h := h.symm; subst h
                          go_wp2_with (refine wpList_store_rowP (fun wx => Below w.heap.size w wx ∧ Row wx w.heap.size 45 (lf4 0 0 0 0)) rfl 45 _ _ rfl w.heap.size (lf4 0 0 0 0) rfl rfl 45 (lf4 0 0 0 0) RL.out (info_lr _ _ _ _) rfl (one_lf _ _ _ _) ⟨below_setRow HB.out (Nat.le_refl _) _, RL.out.setRow _⟩ ?_; rintro wz ⟨hb2, hr2⟩)
                          (try simp only [Exit.inBlock, Exit.then])
                          refine bodyPost_ret (results_row2 rfl _ _ w.heap.size 45 (lf4 0 0 0 0) (0, 0) _ rfl hr2 Tryz.underlying45 rfl (info_lr _ _ _ _)) rfl ?_
                          exact ⟨by rw [show r = _ from (ER.out.trans E2.out)]; rfl, hb2⟩
                  · go_wp2_with fail
                    refine (CA2.out _ RC.out).mono ?_; rintro e wq ⟨rfl, h⟩; replace h := h.symm; subst h
                    have fb := FB2.out
                    have fa := FA2.out
                    cases al2
                    · go_wp2_with fail
                      refine (CP.out _).mono ?_; rintro e wq ⟨rfl, h⟩; replace h := h.symm; subst h
                      go_wp2_with (refine wpList_store_rowP (fun wx => Below w.heap.size w wx ∧ Row wx w.heap.size 45 (lf4 0 0 0 0)) rfl 45 _ _ rfl w.heap.size (lf4 0 0 0 0) rfl rfl 45 (lf4 0 0 0 0) RL.out (info_lr _ _ _ _) rfl (one_lf _ _ _ _) ⟨below_setRow HB.out (Nat.le_refl _) _, RL.out.setRow _⟩ ?_; rintro wz ⟨hb2, hr2⟩)
                      (try simp only [Exit.inBlock, Exit.then])
                      refine bodyPost_ret (results_row2 rfl _ _ w.heap.size 45 (lf4 0 0 0 0) (0, 0) _ rfl hr2 Tryz.underlying45 rfl (info_lr _ _ _ _)) rfl ?_
                      exact ⟨by rw [show r = _ from (ER.out.trans E2.out)]; rfl, hb2⟩
                    · cases nb2
                      · go_wp2_with (refine wpList_store_rowP (fun wx => Below w.heap.size w wx ∧ Row wx w.heap.size 45 (lf4 a2 2 z2 f2)) rfl 45 _ _ rfl w.heap.size (lf4 a2 2 z2 f2) rfl rfl 45 (lf4 0 0 0 0) RL.out (info_lr _ _ _ _) rfl (one_lf _ _ _ _) ⟨below_setRow HB.out (Nat.le_refl _) _, RL.out.setRow _⟩ ?_; rintro wz ⟨hb2, hr2⟩)
                        (try simp only [Exit.inBlock, Exit.then])
                        refine bodyPost_ret (results_row2 rfl _ _ w.heap.size 45 (lf4 a2 2 z2 f2) (0, 0) _ rfl hr2 Tryz.underlying45 rfl (info_lr _ _ _ _)) rfl ?_
                        exact ⟨by rw [show r = _ from (ER.out.trans E2.out)]; rfl, hb2⟩
                      · go_wp2_with fail
                        refine (CP.out _).mono ?_; rintro e wq ⟨rfl, h⟩; replace h := h.symm; subst h
                        go_wp2_with (refine wpList_store_rowP (fun wx => Below w.heap.size w wx ∧ Row wx w.heap.size 45 (lf4 0 0 0 0)) rfl 45 _ _ rfl w.heap.size (lf4 0 0 0 0) rfl rfl 45 (lf4 0 0 0 0) RL.out (info_lr _ _ _ _) rfl (one_lf _ _ _ _) ⟨below_setRow HB.out (Nat.le_refl _) _, RL.out.setRow _⟩ ?_; rintro wz ⟨hb2, hr2⟩)
                        (try simp only [Exit.inBlock, Exit.then])
                        refine bodyPost_ret (results_row2 rfl _ _ w.heap.size 45 (lf4 0 0 0 0) (0, 0) _ rfl hr2 Tryz.underlying45 rfl (info_lr _ _ _ _)) rfl ?_
                        exact ⟨by rw [show r = _ from (ER.out.trans E2.out)]; rfl, hb2⟩
                · go_wp2_with fail
                  refine (CP.out _).mono ?_; rintro e wq ⟨rfl, h⟩; replace h := h.symm; subst h
                  go_wp2_with (refine wpList_store_rowP (fun wx => Below w.heap.size w wx ∧ Row wx w.heap.size 45 (lf4 0 0 0 0)) rfl 45 _ _ rfl w.heap.size (lf4 0 0 0 0) rfl rfl 45 (lf4 0 0 0 0) RL.out (info_lr _ _ _ _) rfl (one_lf _ _ _ _) ⟨below_setRow HB.out (Nat.le_refl _) _, RL.out.setRow _⟩ ?_; rintro wz ⟨hb2, hr2⟩)
                  (try simp only [Exit.inBlock, Exit.then])
                  refine bodyPost_ret (results_row2 rfl _ _ w.heap.size 45 (lf4 0 0 0 0) (0, 0) _ rfl hr2 Tryz.underlying45 rfl (info_lr _ _ _ _)) rfl ?_
                  exact ⟨by rw [show r = _ from (ER.out.trans E2.out)]; rfl, hb2⟩
              · cases y2
                · go_wp2_with fail
                  refine (CP.out _).mono ?_; rintro e wq ⟨rfl, h⟩; replace h := h.symm; subst h
                  go_wp2_with (refine wpList_store_rowP (fun wx => Below w.heap.size w wx ∧ Row wx w.heap.size 45 (lf4 0 0 0 0)) rfl 45 _ _ rfl w.heap.size (lf4 0 0 0 0) rfl rfl 45 (lf4 0 0 0 0) RL.out (info_lr _ _ _ _) rfl (one_lf _ _ _ _) ⟨below_setRow HB.out (Nat.le_refl _) _, RL.out.setRow _⟩ ?_; rintro wz ⟨hb2, hr2⟩)
                  (try simp only [Exit.inBlock, Exit.then])
                  refine bodyPost_ret (results_row2 rfl _ _ w.heap.size 45 (lf4 0 0 0 0) (0, 0) _ rfl hr2 Tryz.underlying45 rfl (info_lr _ _ _ _)) rfl ?_
                  exact ⟨by rw [show r = _ from (ER.out.trans E2.out)]; rfl, hb2⟩
                · go_wp2_with fail
                  refine (CH2.out _).mono ?_; rintro e wq ⟨rfl, h⟩; replace h := h.symm; subst h
                  have fh := FH2.out
                  cases hb2
                  · go_wp2_with fail
                    refine (CT2.out _).mono ?_; rintro e wq ⟨rfl, h⟩; replace h := h.symm; subst h
                    clear fh
                    go_wp2_with fail
                    refine (CA2.out _ RC.out).mono ?_; rintro e wq ⟨rfl, h⟩; replace h := h.symm; subst h
                    have fb := FB2.out
                    have fa := FA2.out
                    cases al2
                    · go_wp2_with fail
                      refine (CP.out _).mono ?_; rintro e wq ⟨rfl, h⟩; replace h := h.symm; subst h
                      go_wp2_with (refine wpList_store_rowP (fun wx => Below w.heap.size w wx ∧ Row wx w.heap.size 45 (lf4 0 0 0 0)) rfl 45 _ _ rfl w.heap.size (lf4 0 0 0 0) rfl rfl 45 (lf4 0 0 0 0) RL.out (info_lr _ _ _ _) rfl (one_lf _ _ _ _) ⟨below_setRow HB.out (Nat.le_refl _) _, RL.out.setRow _⟩ ?_; rintro wz ⟨hb2, hr2⟩)
                      (try simp only [Exit.inBlock, Exit.then])
                      refine bodyPost_ret (results_row2 rfl _ _ w.heap.size 45 (lf4 0 0 0 0) (0, 0) _ rfl hr2 Tryz.underlying45 rfl (info_lr _ _ _ _)) rfl ?_
                      exact ⟨by rw [show r = _ from (ER.out.trans E2.out)]; rfl, hb2⟩
                    · cases nb2
                      · go_wp2_with (refine wpList_store_rowP (fun wx => Below w.heap.size w wx ∧ Row wx w.heap.size 45 (lf4 a2 2 z2 f2)) rfl 45 _ _ rfl w.heap.size (lf4 a2 2 z2 f2) rfl rfl 45 (lf4 0 0 0 0) RL.out (info_lr _ _ _ _) rfl (one_lf _ _ _ _) ⟨below_setRow HB.out (Nat.le_refl _) _, RL.out.setRow _⟩ ?_; rintro wz ⟨hb2, hr2⟩)
                        (try simp only [Exit.inBlock, Exit.then])
                        refine bodyPost_ret (results_row2 rfl _ _ w.heap.size 45 (lf4 a2 2 z2 f2) (0, 0) _ rfl hr2 Tryz.underlying45 rfl (info_lr _ _ _ _)) rfl ?_
                        exact ⟨by rw [show r = _ from (ER.out.trans E2.out)]; rfl, hb2⟩
                      · go_wp2_with fail
                        refine (CP.out _).mono ?_; rintro e wq ⟨rfl, h⟩; replace h := h.symm; subst h
                        go_wp2_with (refine wpList_store_rowP (fun wx => Below w.heap.size w wx ∧ Row wx w.heap.size 45 (lf4 0 0 0 0)) rfl 45 _ _ rfl w.heap.size (lf4 0 0 0 0) rfl rfl 45 (lf4 0 0 0 0) RL.out (info_lr _ _ _ _) rfl (one_lf _ _ _ _) ⟨below_setRow HB.out (Nat.le_refl _) _, RL.out.setRow _⟩ ?_; rintro wz ⟨hb2, hr2⟩)
                        (try simp only [Exit.inBlock, Exit.then])
                        refine bodyPost_ret (results_row2 rfl _ _ w.heap.size 45 (lf4 0 0 0 0) (0, 0) _ rfl hr2 Tryz.underlying45 rfl (info_lr _ _ _ _)) rfl ?_
                        exact ⟨by rw [show r = _ from (ER.out.trans E2.out)]; rfl, hb2⟩
                  · go_wp2_with fail
                    refine (CP.out _).mono ?_; rintro e wq ⟨rfl, h⟩; replace h := h.symm; subst h
                    go_wp2_with (refine wpList_store_rowP (fun wx => Below w.heap.size w wx ∧ Row wx w.heap.size 45 (lf4 0 0 0 0)) rfl 45 _ _ rfl w.heap.size (lf4 0 0 0 0) rfl rfl 45 (lf4 0 0 0 0) RL.out (info_lr _ _ _ _) rfl (one_lf _ _ _ _) ⟨below_setRow HB.out (Nat.le_refl _) _, RL.out.setRow _⟩ ?_; rintro wz ⟨hb2, hr2⟩)
                    (try simp only [Exit.inBlock, Exit.then])
                    refine bodyPost_ret (results_row2 rfl _ _ w.heap.size 45 (lf4 0 0 0 0) (0, 0) _ rfl hr2 Tryz.underlying45 rfl (info_lr _ _ _ _)) rfl ?_
                    exact ⟨by rw [show r = _ from (ER.out.trans E2.out)]; rfl, hb2⟩
      · go_wp2_with fail
        refine (CP.out _).mono ?_; rintro e wq ⟨rfl, h⟩; replace h := h.symm; subst h
        go_wp2_with (refine wpList_store_rowP (fun wx => Below w.heap.size w wx ∧ Row wx w.heap.size 45 (lf4 0 0 0 0)) rfl 45 _ _ rfl w.heap.size (lf4 0 0 0 0) rfl rfl 45 (lf4 0 0 0 0) RL.out (info_lr _ _ _ _) rfl (one_lf _ _ _ _) ⟨below_setRow HB.out (Nat.le_refl _) _, RL.out.setRow _⟩ ?_; rintro wz ⟨hb2, hr2⟩)
        (try simp only [Exit.inBlock, Exit.then])
        refine bodyPost_ret (results_row2 rfl _ _ w.heap.size 45 (lf4 0 0 0 0) (0, 0) _ rfl hr2 Tryz.underlying45 rfl (info_lr _ _ _ _)) rfl ?_
        exact ⟨by rw [show r = _ from ER.out]; rfl, hb2⟩
  · go_wp2_with (refine wpList_store_rowP (fun wx => Below w.heap.size w wx ∧ Row wx w.heap.size 45 (lf4 x (-1) 0 0)) rfl 45 _ _ rfl w.heap.size (lf4 x (-1) 0 0) rfl rfl 45 (lf4 0 0 0 0) RL.out (info_lr _ _ _ _) rfl (one_lf _ _ _ _) ⟨below_setRow HB.out (Nat.le_refl _) _, RL.out.setRow _⟩ ?_; rintro wz ⟨hb2, hr2⟩)
    (try simp only [Exit.inBlock, Exit.then])
    refine bodyPost_ret (results_row2 rfl _ _ w.heap.size 45 (lf4 x (-1) 0 0) (0, 0) _ rfl hr2 Tryz.underlying45 rfl (info_lr _ _ _ _)) rfl ?_
    exact ⟨by rw [show r = _ from ER.out]; rfl, hb2⟩
end Go.Proofs.YthhlcchofilimaaGreatDoor
