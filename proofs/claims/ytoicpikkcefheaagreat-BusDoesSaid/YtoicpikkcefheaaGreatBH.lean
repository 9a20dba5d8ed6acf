/- The bus' Pending and Tick. -/
import Derived.Test.YtoicpikkcefheaaGreatBG
import Derived.StillTailTactics
namespace Go.Proofs.YtoicpikkcefheaaGreat
open Go.ChangeShapes Go.WideShapes Go.ChangeAt Go.RowKit Go.Sort
open M (Fp Dj Cw Up Th Grp GrpAt jn exT)
set_option linter.unusedVariables false
set_option linter.unusedSimpArgs false
set_option maxRecDepth 20000
theorem still_of_quiet {P : Program} {ops : Array Oper} {w : World} {Q : Act → Prop} : ∀ (l : List Oper) (a : Act), wpQuiet P ops (fun w' => w' = w) Q l a → wpStill P ops w Q l a
  | [], a, h => h
  | o :: rest, a, h => by
    unfold wpQuiet at h
    unfold wpStill
    by_cases hw : Region.wanted o (yielded ops a.tmps) = true
    · rw [if_pos hw] at h ⊢
      obtain ⟨v, h1, h2⟩ := h
      have h3 := h1 w rfl
      have h4 := still_of_quiet rest _ h2
      unfold Oper.quietAt at h3
      unfold Oper.still
      generalize (execOp a.eval o).run P w = r at *
      unfold Oper.quietUpon at h3
      unfold Oper.stillUpon
      split at h3
      · obtain ⟨e1, e2⟩ := h3; subst e2; exact ⟨e1, h4⟩
      · obtain ⟨e1, e2⟩ := h3; subst e2; exact ⟨e1, h4⟩
      · obtain ⟨e1, e2⟩ := h3; exact ⟨e1, v, e2, h4⟩
      · exact h3.elim
    · rw [if_neg hw] at h ⊢
      exact still_of_quiet rest _ h
theorem pen_lt (s a t : Nat) (hs : s < 2) : K.penV s a t < 256 := by unfold K.penV; split <;> omega
theorem pend_b {R W : Fp} {w : World} {b : Nat} {S : Bs} (q : (eBus b S).P R W w) : Calls Tryz.prog 23 #[.pointer (some ⟨b, 0, none⟩)] w (fun e w' => e = .returned (.int .u64 (S.pend : Nat)) ∧ Below w.heap.size w w') := by
  obtain ⟨m, c, p, u, sv, g, h5, h6⟩ := bus_open q
  obtain ⟨h4, c0, c1, c2, c3, c4, c5, c6, f5, f6⟩ := bus_cells g
  obtain ⟨R1, W1, R2, W2, R3, W3, q1, q2, -⟩ := get_dev g
  have qc := calls_regrown (W := w) (fun w1 hb => K.pend_c w1 c S.D.s S.D.a S.D.t (q1.2.1.below hb) q1.2.2.1)
  have qp := calls_regrown (W := w) (fun w1 hb => P.pend_c p S.D.S w1 (Lib.hid (q2.2.1.below hb)) (Lib.hid q2.2.2))
  have HV : Hid (bits .or .u64 ((K.penV S.D.s S.D.a S.D.t : Nat) : Int) ((P.pendF S.D.S : Nat) : Int) = ((S.pend : Nat) : Int)) := by
    show _ = _
    have h1 := pen_lt S.D.s S.D.a S.D.t q1.2.2.1
    have h2 := P.pend_lt S.D.S
    rw [u64_or_nat _ _ (by omega) (by omega)]; rfl
  have k1 := cell_regrown c1
  have k2 := cell_regrown c2
  clear g h5 h6 q q1 q2 c0 c1 c2 c3 c4 c5 c6 f5 f6
  generalize K.penV S.D.s S.D.a S.D.t = pa at *
  generalize P.pendF S.D.S = pb at *
  go_enter Tryz.func23, Tryz.ntmps23
  go_wp2_with fail
  refine wp_region_quiet_below (by kernel_rfl) (by kernel_rfl) ?_
  repeat (go_big_quiet_step (first | (go_at_call 67; exact qc _ _) | (go_at_call 68; exact qp _ _)))
  refine wpQuiet_nil ?_
  intro _ hw'
  obtain ⟨⟨dq, osq⟩, hw''⟩ := hw'
  subst hw''
  have hb := below_regrown w dq osq
  generalize grow (redrawn w dq) osq = w1 at hb ⊢
  have HB := Lib.hid hb
  clear hb
  go_wp2_with fail
  go_ret
  exact ⟨by rw [← HV.out]; rfl, HB.out⟩
/-- The inputs of a cycle come. -/
def tickEv (cyc : Int) : List Ev → Dv → List Ev × Dv
  | [], D => ([], D)
  | e :: r, D => if e.cyc = cyc then tickEv cyc r (D.come e) else (e :: r, D)
def Bs.tick (S : Bs) : Bs := { S with D := (tickEv (S.cyc + 1) S.ahead S.D).2.tick, ahead := (tickEv (S.cyc + 1) S.ahead S.D).1, cyc := S.cyc + 1 }
theorem eBc_set6 {R W : Fp} {w : World} {b m : Nat} {v : Value} {cyc : Int} (q : (eBc b m v cyc).P R W w) (x : Int) : (eBc b m v x).P (Up R w (w.setCell ⟨b, 6, none⟩ (.int .i64 x))) (Up W w (w.setCell ⟨b, 6, none⟩ (.int .i64 x))) (w.setCell ⟨b, 6, none⟩ (.int .i64 x)) ∧ Cw W w (w.setCell ⟨b, 6, none⟩ (.int .i64 x)) := by
  obtain ⟨⟨h0, h1, h2⟩, h3, h4, h5, c0, c5, c6, f0, f5, f6⟩ := q
  have ne : ∀ j, j ≠ 6 → (w.setCell ⟨b, 6, none⟩ (.int .i64 x)).cell? ⟨b, j, none⟩ = w.cell? ⟨b, j, none⟩ := fun j hj => World.cell?_setCell_other _ _ _ _ (fun e => by injection e with e1 e2; omega)
  refine ⟨⟨⟨.inl h0, .inl h1, .inl h2⟩, fun k j h => h.imp (h3 k j) id, fun k j h => by rw [sz_set]; exact h.elim (h4 k j) (fun q => by rw [sz_set] at q; omega), by rw [sz_set]; exact h5, (ne 0 (by decide)).trans c0, (ne 5 (by decide)).trans c5, World.cell?_setCell_same _ _ _ c6, ?_, ?_, ?_⟩, cw_set h2⟩ <;> (rw [World.frozen?_setCell]; assumption)
theorem eBc_set5 {R W : Fp} {w : World} {b m : Nat} {v : Value} {cyc : Int} (q : (eBc b m v cyc).P R W w) (x : Value) : (eBc b m x cyc).P (Up R w (w.setCell ⟨b, 5, none⟩ x)) (Up W w (w.setCell ⟨b, 5, none⟩ x)) (w.setCell ⟨b, 5, none⟩ x) ∧ Cw W w (w.setCell ⟨b, 5, none⟩ x) := by
  obtain ⟨⟨h0, h1, h2⟩, h3, h4, h5, c0, c5, c6, f0, f5, f6⟩ := q
  have ne : ∀ j, j ≠ 5 → (w.setCell ⟨b, 5, none⟩ x).cell? ⟨b, j, none⟩ = w.cell? ⟨b, j, none⟩ := fun j hj => World.cell?_setCell_other _ _ _ _ (fun e => by injection e with e1 e2; omega)
  refine ⟨⟨⟨.inl h0, .inl h1, .inl h2⟩, fun k j h => h.imp (h3 k j) id, fun k j h => by rw [sz_set]; exact h.elim (h4 k j) (fun q => by rw [sz_set] at q; omega), by rw [sz_set]; exact h5, (ne 0 (by decide)).trans c0, World.cell?_setCell_same _ _ _ c5, (ne 6 (by decide)).trans c6, ?_, ?_, ?_⟩, cw_set h1⟩ <;> (rw [World.frozen?_setCell]; assumption)
theorem get_ev {R0 W0 : Fp} {w0 w : World} {b m c p u : Nat} {v : Value} {S : Bs} (h : Grp R0 W0 w0 (bl b m c p u v S) w) : ∃ a n c' g o, v = .slice a n c' ∧ IsE w a n c' g o S.ahead := by
  obtain ⟨_, _, -, -, a, n, c', g, o, h1, h2, -⟩ := h.get 3 rfl
  exact ⟨a, n, c', g, o, h1, h2⟩
theorem tick_keep {R0 W0 : Fp} {w0 w : World} {b m c p u g o n c' : Nat} {F : Nat → Nat} {D : Dv} {x : Ev} {r : List Ev} {y : Int} (h : Grp R0 W0 w0 (bl b m c p u (.slice (some ⟨g, o, none⟩) n c') ⟨F, D, x :: r, y⟩) w) :
    w.cell? ⟨b, 5, none⟩ = some (.slice (some ⟨g, o, none⟩) n c') ∧ w.cell? ⟨g, o, none⟩ = some (.int .i64 x.cyc) ∧ w.cell? ⟨g, o + 1, none⟩ = some (.int .i64 x.kind) ∧ w.cell? ⟨g, o + 2, none⟩ = some (.int .i64 x.n) ∧ w.cell? ⟨g, o + 3, none⟩ = some (.int .u64 (x.v : Nat)) := by
  obtain ⟨a, n', c2, g', o', e, hE⟩ := get_ev h
  injection e with e1 e2 e3
  subst e1 e2 e3
  have hn : 0 < n := by rw [← hE.len]; exact Nat.succ_pos _
  have ha := (hE.addr hn).1
  injection ha with ha
  injection ha with h1 h2
  subst h1 h2
  obtain ⟨q0, q1, q2, q3⟩ := hE.at (i := 0) (e := x) rfl
  rw [Nat.zero_mul, Nat.add_zero] at q0 q1 q2 q3
  exact ⟨(bus_cells h).c5, q0, q1, q2, q3⟩
theorem cut_ev {R0 W0 : Fp} {w0 w : World} {b m c p u g o n c' : Nat} {F : Nat → Nat} {D : Dv} {x : Ev} {r : List Ev} {y : Int} (h : Grp R0 W0 w0 (bl b m c p u (.slice (some ⟨g, o, none⟩) n c') ⟨F, D, x :: r, y⟩) w) (a' : Addr) (c2 : Nat) (ha : 0 < n - 1 → a' = ⟨g, o + 4, none⟩) (hc : n - 1 ≤ c2) :
    Grp R0 W0 w0 (bl b m c p u (.slice (some a') (n - 1) c2) ⟨F, D, r, y⟩) (w.setCell ⟨b, 5, none⟩ (.slice (some a') (n - 1) c2)) := by
  have h1 : Grp R0 W0 w0 (bl b m c p u (.slice (some ⟨g, o, none⟩) n c') ⟨F, D, x :: r, y⟩ |>.set 3 (eEv (.slice (some a') (n - 1) c2) r)) w := by
    refine h.set (w' := w) 3 rfl (fun R W ⟨q1, q2, a, n', c3, g', o', e, hE, hR⟩ => ?_)
    injection e with e1 e2 e3
    subst e1 e2 e3
    have hn : 0 < n := by rw [← hE.len]; exact Nat.succ_pos _
    have hl : r.length + 1 = n := hE.len
    have he := (hE.addr hn).1
    injection he with he
    injection he with h1 h2
    subst h1 h2
    refine ⟨⟨fun k j q => q.elim (q1 k j) (fun q => by omega), fun k j q => q.elim (q2 k j) (·.2), some a', n - 1, c2, g, o + 4, rfl, ⟨by omega, hc, fun h0 => ⟨by rw [ha h0], (hE.addr hn).2⟩, fun i hi => ?_⟩, fun i hi => .inl ?_⟩, Cw.refl _ _⟩
    · rw [show o + 4 + i = o + (4 + i) by omega, hE.cell (4 + i) (by omega)]
      show (evCells x ++ evsCells r)[4 + i]? = _
      rw [List.getElem?_append_right (by show 4 ≤ _; omega), show 4 + i - (evCells x).length = i by show _ - 4 = _; omega]
    · rw [show o + 4 + i = o + (4 + i) by omega]; exact hR (4 + i) (by omega)
  exact h1.set 0 rfl (fun R W q => eBc_set5 q _)
set_option maxHeartbeats 1000000 in
theorem tick_b {R W : Fp} {w : World} {b : Nat} {S : Bs} (q : (eBus b S).P R W w) (hc : Hid (-1 ≤ S.cyc ∧ S.cyc < 4611686018427387904)) (hok : Hid (∀ e ∈ S.ahead, OkE e)) : Calls Tryz.prog 13 #[.pointer (some ⟨b, 0, none⟩)] w (Upon (.tuple #[]) (eBus b S.tick) R W w) := by
  obtain ⟨m, c, p, u, sv, g, h5, h6⟩ := bus_open q
  obtain ⟨h4, c0, c1, c2, c3, c4, c5, c6, f5, f6⟩ := bus_cells g
  have hw : IntKind.i64.wrap (S.cyc + 1) = S.cyc + 1 := IntWalk.i64_in _ (by have := hc.out; omega)
  have H5 := Lib.hid h5; have H6 := Lib.hid h6
  have G1 : Hid (Grp R W w (bl b m c p u sv { S with cyc := S.cyc + 1 }) (w.setCell ⟨b, 6, none⟩ (.int .i64 (S.cyc + 1)))) := g.set 0 rfl (fun R W q => eBc_set6 q _)
  have E1 : Hid (S.tick = { S with D := (tickEv (S.cyc + 1) S.ahead S.D).2.tick, ahead := (tickEv (S.cyc + 1) S.ahead S.D).1, cyc := S.cyc + 1 }) := rfl
  have hlt := h4
  clear g h5 h6 q
  go_enter Tryz.func13, Tryz.ntmps13
  go_wp2_with fail
  clear c0 c1 c2 c3 c4 c5 c6 f5 f6 hw
  generalize hy : S.cyc + 1 = y at *
  generalize w.setCell ⟨b, 6, none⟩ (.int .i64 y) = w1 at *
  go_loopg [28] S.ahead.length (fun k s28 wx => ∃ (L : List Ev) (D : Dv) (v : Value), L.length ≤ k ∧ Hid (Grp R W w (bl b m c p u v { S with D := D, ahead := L, cyc := y }) wx) ∧ Hid (tickEv y S.ahead S.D = tickEv y L D) ∧ Hid (∀ e ∈ L, OkE e))
  case atStart => exact ⟨S.ahead, S.D, sv, Nat.le_refl _, G1, rfl, hok⟩
  case round =>
    obtain ⟨L, D, v, hk, HG, HT, HO⟩ := hrel
    obtain ⟨h4, c0, c1, c2, c3, c4, c5, c6, f5, f6⟩ := bus_cells HG.out
    obtain ⟨a, n, c', g, o, rfl, hE⟩ := get_ev HG.out
    have hl := hE.len
    have k5 := cell_regrown c5
    have k6 := cell_regrown c6
    cases L with
    | nil =>
      obtain rfl : n = 0 := hl.symm
      have HX : Hid (tickEv y S.ahead S.D = ([], D)) := HT.out
      clear hE hl HT HO c0 c1 c2 c3 c4 f5 f6
      go_wp2_with fail
      refine wp_region_quiet_below (by kernel_rfl) (by kernel_rfl) ?_
      repeat (go_big_quiet_step (fail))
      refine wpQuiet_nil ?_
      intro _ hw'
      obtain ⟨⟨dq, osq⟩, hw''⟩ := hw'
      subst hw''
      have hb := below_regrown wr dq osq
      generalize grow (redrawn wr dq) osq = w2 at hb ⊢
      have HG2 := Lib.hid (HG.out.below hb)
      clear hb HG k5 k6 c5 c6 h4
      obtain ⟨h4, c0, c1, c2, c3, c4, c5, c6, f5, f6⟩ := bus_cells HG2.out
      have HTk : Hid (Calls Tryz.prog 54 #[.pointer (some ⟨c, 0, none⟩)] w2 (fun e w' => e = .returned (.tuple #[]) ∧ Grp R W w (bl b m c p u (.slice a 0 c') ⟨S.F, D.tick, [], y⟩) w')) := HG2.out.step 1 rfl _ (fun R W q => tickD q)
      go_wp2_with fail
      refine HTk.out.mono ?_; rintro e3 w3 ⟨rfl, g3⟩
      have G3 := Lib.hid g3; clear g3
      go_wp2_with fail
      go_end0
      refine ⟨rfl, ?_⟩
      rw [E1.out, HX.out]
      exact bus_close G3.out H5.out H6.out
    | cons x r =>
      obtain ⟨q0, q1, q2, q3⟩ := hE.at (i := 0) (e := x) rfl
      have hn0 : 0 < n := by rw [← hl]; exact Nat.succ_pos _
      have ha := (hE.addr hn0).1
      have hgl := (hE.addr hn0).2
      rw [Nat.zero_mul, Nat.add_zero] at q0 q1 q2 q3
      have hn0' : (0 : Int) < n := by omega
      subst ha
      have k0 := cell_regrown q0
      by_cases he : x.cyc = y
      · have he' : (x.cyc == y) = true := by rw [he]; exact beq_self_eq_true y
        have HX : Hid (tickEv y S.ahead S.D = tickEv y r (D.come x)) := by
          show _ = _
          rw [HT.out]
          show (if x.cyc = y then _ else _) = _
          rw [if_pos he]
        have HLE := Lib.hid hE
        clear hE HT c0 c1 c2 c3 c4 f5 f6 q1 q2 q3
        go_wp2_with fail
        refine wp_region_quiet_below (by kernel_rfl) (by kernel_rfl) ?_
        repeat (go_big_quiet_step (fail))
        refine wpQuiet_nil ?_
        intro _ hw'
        obtain ⟨⟨dq, osq⟩, hw''⟩ := hw'
        subst hw''
        have hb := below_regrown wr dq osq
        generalize grow (redrawn wr dq) osq = w2 at hb ⊢
        have HG2 := Lib.hid (HG.out.below hb)
        have HE2 := Lib.hid (HLE.out.below hb)
        clear hb HG k5 k6 k0 c5 c6 h4 q0
        obtain ⟨h4, c0, c1, c2, c3, c4, c5, c6, f5, f6⟩ := bus_cells HG2.out
        obtain ⟨q0, q1, q2, q3⟩ := HE2.out.at (i := 0) (e := x) rfl
        rw [Nat.zero_mul, Nat.add_zero] at q0 q1 q2 q3
        have HCm : Hid (∀ w3, Below w2.heap.size w2 w3 → Calls Tryz.prog 53 #[.pointer (some ⟨b, 1, none⟩), evV x] w3 (fun e w' => e = .returned (.tuple #[]) ∧ Grp R W w (bl b m c p u (.slice (some ⟨g, o, none⟩) n c') ⟨S.F, D.come x, x :: r, y⟩) w')) := fun w3 hb => (HG2.out.below hb).step 1 rfl _ (fun R W q => comeD q x (HO.out x (List.mem_cons_self ..)))
        obtain ⟨xc, xk, xn, xv⟩ := x
        dsimp only at q0 q1 q2 q3 he he'
        subst he
        go_wp2_with fail
        refine wp_region_still_tail 9 (by kernel_rfl) (by kernel_rfl) ?_
        simp only [List.take_succ_cons, List.take_zero, List.drop_succ_cons, List.drop_zero]
        refine still_of_quiet _ _ ?_
        change wpQuiet _ _ (fun w' => w' = w2.drew) (fun a' => wpList _ _ _ _ a' w2.drew) _ _
        have c5' : w2.drew.cell? ⟨b, 5, none⟩ = some (.slice (some ⟨g, o, none⟩) n c') := c5
        have q0' : w2.drew.cell? ⟨g, o, none⟩ = some (.int .i64 xc) := q0
        have q1' : w2.drew.cell? ⟨g, o + 1, none⟩ = some (.int .i64 xk) := q1
        have q2' : w2.drew.cell? ⟨g, o + 2, none⟩ = some (.int .i64 xn) := q2
        have q3' : w2.drew.cell? ⟨g, o + 3, none⟩ = some (.int .u64 (xv : Nat)) := q3
        have HC2 := Lib.hid (HCm.out w2.drew ((Below.refl _ _).drew))
        clear HCm c5 q0 q1 q2 q3 HE2
        generalize w2.drew = wq at *
        iterate 9 (go_big_quiet_step (fail))
        refine wpQuiet_nil ?_
        clear c5' q0' q1' q2' q3'
        go_wp2_with fail
        refine HC2.out.mono ?_; rintro e3 w3 ⟨rfl, g3⟩
        have G3 := Lib.hid g3; clear g3
        obtain ⟨h4, c0, c1, c2, c3, c4, c5, c6, f5, f6⟩ := bus_cells G3.out
        have hn1 : (1 : Int) ≤ n := by omega
        have hnc : n ≤ c' := HLE.out.le
        have hnc' : (n : Int) ≤ c' := by omega
        obtain ⟨k, rfl⟩ : ∃ k, gk = k + 1 := ⟨gk - 1, by have : r.length + 1 ≤ gk := hk; omega⟩
        go_wp2_with fail
        · obtain rfl : n = 1 := by omega
          have HN := Lib.hid (cut_ev G3.out ⟨g, o, none⟩ 0 (fun h => absurd h (by decide)) (Nat.le_refl _))
          go_roundg k
          case measure => omega
          case rel => exact ⟨r, _, _, by have : r.length + 1 ≤ k + 1 := hk; omega, HN, HX, fun e he => HO.out e (List.mem_cons_of_mem _ he)⟩
        · have HN := Lib.hid (cut_ev G3.out ⟨g, o + 4, none⟩ (c' - 1) (fun h => rfl) (by omega))
          go_roundg k
          case measure => omega
          case rel => exact ⟨r, _, _, by have : r.length + 1 ≤ k + 1 := hk; omega, HN, HX, fun e he => HO.out e (List.mem_cons_of_mem _ he)⟩
      · have he' : (x.cyc == y) = false := by rw [beq_eq_false_iff_ne]; exact he
        have HX : Hid (tickEv y S.ahead S.D = (x :: r, D)) := by
          show _ = _
          rw [HT.out]
          show (if x.cyc = y then _ else _) = _
          rw [if_neg he]
        clear hE HT c0 c1 c2 c3 c4 f5 f6 q1 q2 q3
        go_wp2_with fail
        refine wp_region_quiet_below (by kernel_rfl) (by kernel_rfl) ?_
        repeat (go_big_quiet_step (fail))
        refine wpQuiet_nil ?_
        intro _ hw'
        obtain ⟨⟨dq, osq⟩, hw''⟩ := hw'
        subst hw''
        have hb := below_regrown wr dq osq
        generalize grow (redrawn wr dq) osq = w2 at hb ⊢
        have HG2 := Lib.hid (HG.out.below hb)
        clear hb HG k5 k6 k0 c5 c6 h4 q0
        obtain ⟨h4, c0, c1, c2, c3, c4, c5, c6, f5, f6⟩ := bus_cells HG2.out
        have HTk : Hid (Calls Tryz.prog 54 #[.pointer (some ⟨c, 0, none⟩)] w2 (fun e w' => e = .returned (.tuple #[]) ∧ Grp R W w (bl b m c p u (.slice (some ⟨g, o, none⟩) n c') ⟨S.F, D.tick, (x :: r), y⟩) w')) := HG2.out.step 1 rfl _ (fun R W q => tickD q)
        go_wp2_with fail
        refine HTk.out.mono ?_; rintro e3 w3 ⟨rfl, g3⟩
        have G3 := Lib.hid g3; clear g3
        go_wp2_with fail
        go_end0
        refine ⟨rfl, ?_⟩
        rw [E1.out, HX.out]
        exact bus_close G3.out H5.out H6.out
end Go.Proofs.YtoicpikkcefheaaGreat
