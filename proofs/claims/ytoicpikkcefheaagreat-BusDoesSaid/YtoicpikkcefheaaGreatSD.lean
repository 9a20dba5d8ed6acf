/- The document's bus: Write. -/
import Derived.Test.YtoicpikkcefheaaGreatSC
import Derived.Deep.LoopGhost
import Derived.RegionTactic
import Derived.Deep.Cut
import Derived.Deep.CutRange
import Derived.Deep.CutBlock
namespace Go.Proofs.YtoicpikkcefheaaGreat
open Go.ChangeShapes Go.WideShapes Go.ChangeAt Go.RowKit Go.Sort
open M (Fp Dj Cw Up Th Grp GrpAt jn exT)
set_option linter.unusedVariables false
set_option linter.unusedSimpArgs false
set_option maxRecDepth 20000
theorem wr_one (D : Dv) (x : Nat) (z : Int) (v : Nat) : (D.wr x z v).one = D.one := by
  unfold Dv.wr
  by_cases h1 : dvK x = 1
  · rw [if_pos h1]
  rw [if_neg h1]
  by_cases h2 : dvK x = 2
  · rw [if_pos h2]
  rw [if_neg h2]
  by_cases h3 : dvK x = 3
  · rw [if_pos h3]
  rw [if_neg h3]
section
variable {R W : Fp} {w : World} {r : Nat} {S : Bs}
theorem rwrite_ram (q : (eRB r S).P R W w) (x v : Nat) (z : Int) (hx : x < W64) (hh : M.hasV x z = true) : Calls Tryz.prog 8 #[.pointer (some ⟨r, 0, none⟩), .int .u64 x, .int .i64 z, .int .u64 v] w (Upon (.bool true) (eRB r { S with F := M.wrF S.F x z v }) R W w) := by
  have hp := Lib.hid (rplain_q q x z hx)
  rw [hh] at hp
  obtain ⟨m, c, p, u, sv, L, came, hc, g, h5, h6⟩ := rb_open q
  have c0 := (rcells g).c0
  have lt := (rcells g).lt
  have hr : Hid (∀ w1, Below w.heap.size w w1 → Calls Tryz.prog 37 #[.pointer (some ⟨m, 0, none⟩), .int .u64 x, .int .i64 z, .int .u64 v] w1 (fun e w' => e = .returned (.bool true) ∧ Grp R W w (rl r m c p u sv L came { S with F := M.wrF S.F x z v }) w')) := fun w1 hb =>
    (g.below hb).step 4 rfl (M.eR m (M.wrF S.F x z v)) (fun R W qm => by
      obtain ⟨e, h1⟩ := qm; subst e
      have := M.writer_c R m x v z S.F w1 (Lib.hid h1) (Lib.hid hx)
      rw [hh] at this
      refine this.mono ?_
      rintro e w' ⟨rfl, q1, q2⟩
      exact ⟨rfl, ⟨rfl, q1⟩, q2.weak⟩)
  have HC : Hid (RCo L came { S with F := M.wrF S.F x z v }) := ⟨hc.ahead, hc.le, hc.few, hc.up, hc.ok⟩
  have H5 := Lib.hid h5; have H6 := Lib.hid h6
  clear g h5 h6 q hc hx hh
  go_enter Tryz.func8, Tryz.ntmps8
  go_wp2_with fail
  refine hp.out.mono ?_; rintro e w1 ⟨rfl, hb1⟩
  have d0 := (hb1.cell (p := ⟨r, 0, none⟩) lt).trans c0
  have HR := Lib.hid (hr.out w1 hb1)
  clear hb1 hr
  go_wp2_with fail
  refine HR.out.mono ?_; rintro e w2 ⟨rfl, g2⟩
  have G2 := Lib.hid g2; clear g2
  go_wp2_with fail
  go_ret
  exact ⟨rfl, rb_close G2.out HC.out H5.out H6.out⟩
theorem rwrite_0 (q : (eRB r S).P R W w) (x v : Nat) (z : Int) (hx : x < W64) (hv : v < W64) (hn : S.D.U.sent.length < 70368744177664) (hh : M.hasV x z = false) (hd : dvK x = 0) : Calls Tryz.prog 8 #[.pointer (some ⟨r, 0, none⟩), .int .u64 x, .int .i64 z, .int .u64 v] w (Upon (.bool (okD x z)) (eRB r { S with D := (S.D.wr x z v).fol }) R W w) := by
  have hp := Lib.hid (rplain_q q x z hx)
  rw [hh] at hp
  obtain ⟨m, c, p, u, sv, L, came, hc, g, h5, h6⟩ := rb_open q
  have HD := Lib.hid (device_c x hx)
  unfold RetDv at HD
  rw [hd] at HD
  have e1 := wr_one S.D x z v
  have HC := Lib.hid (hc.fol (S.D.wr x z v))
  have H5 := Lib.hid h5; have H6 := Lib.hid h6
  have e2 : okD x z = false := by unfold okD; rw [hd]; rw [if_neg (by decide), if_neg (by decide), if_neg (by decide)]
  have e3 : S.D.wr x z v = S.D := by unfold Dv.wr; rw [hd]; rw [if_neg (by decide), if_neg (by decide), if_neg (by decide)]
  have HG : Hid (∀ w1, Below w.heap.size w w1 → Grp R W w (dz (eBR r m c p u sv S.cyc came (S.D.wr x z v).one) c p u came (S.D.wr x z v) [M.eR m S.F, eEv sv L]) w1) := fun w1 hb => by
    rw [e3]
    exact g.below hb
  rw [e2]
  clear e1 e2 e3 g h5 h6 q hx hd hc hh hv hn
  generalize dvPl x = y at *
  generalize S.D.wr x z v = D1 at *
  go_enter Tryz.func8, Tryz.ntmps8
  go_wp2_with fail
  refine hp.out.mono ?_; rintro e w1 ⟨rfl, hb1⟩
  have g3 := HG.out w1 hb1
  clear HG hb1 hp
  go_wp2_with fail
  refine (HD.out w1).mono ?_; rintro e w3 ⟨rfl, q⟩; subst q
  have HS := Lib.hid (settle_c r m c p u came sv S.cyc came D1 [M.eR m S.F, eEv sv L] R W w _ (Lib.hid g3))
  clear g3
  go_wp2_with fail
  refine HS.out.mono ?_; rintro e w4 ⟨rfl, g4⟩
  have G4 := Lib.hid g4; clear g4 HS
  go_wp2_with fail
  go_ret
  exact ⟨rfl, rb_close G4.out HC.out H5.out H6.out⟩
theorem rwrite_1 (q : (eRB r S).P R W w) (x v : Nat) (z : Int) (hx : x < W64) (hv : v < W64) (hn : S.D.U.sent.length < 70368744177664) (hh : M.hasV x z = false) (hd : dvK x = 1) : Calls Tryz.prog 8 #[.pointer (some ⟨r, 0, none⟩), .int .u64 x, .int .i64 z, .int .u64 v] w (Upon (.bool (okD x z)) (eRB r { S with D := (S.D.wr x z v).fol }) R W w) := by
  have hp := Lib.hid (rplain_q q x z hx)
  rw [hh] at hp
  obtain ⟨m, c, p, u, sv, L, came, hc, g, h5, h6⟩ := rb_open q
  have HD := Lib.hid (device_c x hx)
  unfold RetDv at HD
  rw [hd] at HD
  have e1 := wr_one S.D x z v
  have HC := Lib.hid (hc.fol (S.D.wr x z v))
  have H5 := Lib.hid h5; have H6 := Lib.hid h6
  rw [show dvPl x = farN x 33554432 by unfold dvPl; rw [hd]; rw [if_pos rfl]] at HD
  have e2 : okD x z = decide (K.kd (farN x 33554432) z ≠ 0) := by unfold okD; rw [hd]; rw [if_pos rfl]
  have e3 : S.D.wr x z v = { S.D with s := K.wrS (K.kd (farN x 33554432) z) S.D.s v, a := K.wrA (K.kd (farN x 33554432) z) S.D.a v, t := K.wrT (K.kd (farN x 33554432) z) S.D.t v } := by unfold Dv.wr; rw [hd]; rw [if_pos rfl]
  have HR : Hid (∀ w1, Below w.heap.size w w1 → Calls Tryz.prog 39 #[.pointer (some ⟨c, 0, none⟩), .int .u64 (farN x 33554432 : Nat), .int .i64 z, .int .u64 v] w1 (fun e w' => e = .returned (.bool (okD x z)) ∧ Grp R W w (dz (eBR r m c p u sv S.cyc came (S.D.wr x z v).one) c p u came (S.D.wr x z v) [M.eR m S.F, eEv sv L]) w')) := fun w1 hb => by
    rw [e2, e3]
    generalize farN x 33554432 = y
    exact (g.below hb).step 1 rfl _ (fun R W q => writeK q y z hv)
  have HCe := Lib.hid (fun w1 (hb : Below w.heap.size w w1) => rcells (g.below hb))
  clear e1 e2 e3 g h5 h6 q hx hd hc hh hv hn
  generalize farN x 33554432 = y at *
  generalize okD x z = bb at *
  generalize S.D.wr x z v = D1 at *
  go_enter Tryz.func8, Tryz.ntmps8
  go_wp2_with fail
  refine hp.out.mono ?_; rintro e w1 ⟨rfl, hb1⟩
  have HR1 := Lib.hid (HR.out w1 hb1)
  have c1 := (HCe.out w1 hb1).c1
  clear HR HCe hb1 hp
  go_wp2_with fail
  refine (HD.out w1).mono ?_; rintro e w2 ⟨rfl, q⟩; subst q
  go_wp2_with fail
  refine HR1.out.mono ?_; rintro e w3 ⟨rfl, g3⟩
  have HS := Lib.hid (settle_c r m c p u came sv S.cyc came D1 [M.eR m S.F, eEv sv L] R W w _ (Lib.hid g3))
  clear g3
  go_wp2_with fail
  refine HS.out.mono ?_; rintro e w4 ⟨rfl, g4⟩
  have G4 := Lib.hid g4; clear g4 HS
  go_wp2_with fail
  go_ret
  exact ⟨rfl, rb_close G4.out HC.out H5.out H6.out⟩
theorem rwrite_2 (q : (eRB r S).P R W w) (x v : Nat) (z : Int) (hx : x < W64) (hv : v < W64) (hn : S.D.U.sent.length < 70368744177664) (hh : M.hasV x z = false) (hd : dvK x = 2) : Calls Tryz.prog 8 #[.pointer (some ⟨r, 0, none⟩), .int .u64 x, .int .i64 z, .int .u64 v] w (Upon (.bool (okD x z)) (eRB r { S with D := (S.D.wr x z v).fol }) R W w) := by
  have hp := Lib.hid (rplain_q q x z hx)
  rw [hh] at hp
  obtain ⟨m, c, p, u, sv, L, came, hc, g, h5, h6⟩ := rb_open q
  have HD := Lib.hid (device_c x hx)
  unfold RetDv at HD
  rw [hd] at HD
  have e1 := wr_one S.D x z v
  have HC := Lib.hid (hc.fol (S.D.wr x z v))
  have H5 := Lib.hid h5; have H6 := Lib.hid h6
  rw [show dvPl x = farN x 201326592 by unfold dvPl; rw [hd]; rw [if_neg (by decide), if_pos rfl]] at HD
  have e2 : okD x z = decide (P.pk (farN x 201326592) z ≠ 0) := by unfold okD; rw [hd]; rw [if_neg (by decide), if_pos rfl]
  have e3 : S.D.wr x z v = { S.D with S := P.wrP (P.pk (farN x 201326592) z) S.D.S v } := by unfold Dv.wr; rw [hd]; rw [if_neg (by decide), if_pos rfl]
  have HR : Hid (∀ w1, Below w.heap.size w w1 → Calls Tryz.prog 40 #[.pointer (some ⟨p, 0, none⟩), .int .u64 (farN x 201326592 : Nat), .int .i64 z, .int .u64 v] w1 (fun e w' => e = .returned (.bool (okD x z)) ∧ Grp R W w (dz (eBR r m c p u sv S.cyc came (S.D.wr x z v).one) c p u came (S.D.wr x z v) [M.eR m S.F, eEv sv L]) w')) := fun w1 hb => by
    rw [e2, e3]
    generalize farN x 201326592 = y
    exact (g.below hb).step 2 rfl _ (fun R W q => writeZ q y z hv)
  have HCe := Lib.hid (fun w1 (hb : Below w.heap.size w w1) => rcells (g.below hb))
  clear e1 e2 e3 g h5 h6 q hx hd hc hh hv hn
  generalize farN x 201326592 = y at *
  generalize okD x z = bb at *
  generalize S.D.wr x z v = D1 at *
  go_enter Tryz.func8, Tryz.ntmps8
  go_wp2_with fail
  refine hp.out.mono ?_; rintro e w1 ⟨rfl, hb1⟩
  have HR1 := Lib.hid (HR.out w1 hb1)
  have c2 := (HCe.out w1 hb1).c2
  clear HR HCe hb1 hp
  go_wp2_with fail
  refine (HD.out w1).mono ?_; rintro e w2 ⟨rfl, q⟩; subst q
  go_wp2_with fail
  refine HR1.out.mono ?_; rintro e w3 ⟨rfl, g3⟩
  have HS := Lib.hid (settle_c r m c p u came sv S.cyc came D1 [M.eR m S.F, eEv sv L] R W w _ (Lib.hid g3))
  clear g3
  go_wp2_with fail
  refine HS.out.mono ?_; rintro e w4 ⟨rfl, g4⟩
  have G4 := Lib.hid g4; clear g4 HS
  go_wp2_with fail
  go_ret
  exact ⟨rfl, rb_close G4.out HC.out H5.out H6.out⟩
theorem rwrite_3 (q : (eRB r S).P R W w) (x v : Nat) (z : Int) (hx : x < W64) (hv : v < W64) (hn : S.D.U.sent.length < 70368744177664) (hh : M.hasV x z = false) (hd : dvK x = 3) : Calls Tryz.prog 8 #[.pointer (some ⟨r, 0, none⟩), .int .u64 x, .int .i64 z, .int .u64 v] w (Upon (.bool (okD x z)) (eRB r { S with D := (S.D.wr x z v).fol }) R W w) := by
  have hp := Lib.hid (rplain_q q x z hx)
  rw [hh] at hp
  obtain ⟨m, c, p, u, sv, L, came, hc, g, h5, h6⟩ := rb_open q
  have HD := Lib.hid (device_c x hx)
  unfold RetDv at HD
  rw [hd] at HD
  have e1 := wr_one S.D x z v
  have HC := Lib.hid (hc.fol (S.D.wr x z v))
  have H5 := Lib.hid h5; have H6 := Lib.hid h6
  rw [show dvPl x = farN x 268435456 by unfold dvPl; rw [hd]; rw [if_neg (by decide), if_neg (by decide), if_pos rfl]] at HD
  have e2 : okD x z = T.okK (T.kd (farN x 268435456) z) := by unfold okD; rw [hd]; rw [if_neg (by decide), if_neg (by decide), if_pos rfl]
  have e3 : S.D.wr x z v = { S.D with U := T.wrK (T.kd (farN x 268435456) z) S.D.U v } := by unfold Dv.wr; rw [hd]; rw [if_neg (by decide), if_neg (by decide), if_pos rfl]
  have HR : Hid (∀ w1, Below w.heap.size w w1 → Calls Tryz.prog 41 #[.pointer (some ⟨u, 0, none⟩), .int .u64 (farN x 268435456 : Nat), .int .i64 z, .int .u64 v] w1 (fun e w' => e = .returned (.bool (okD x z)) ∧ Grp R W w (dz (eBR r m c p u sv S.cyc came (S.D.wr x z v).one) c p u came (S.D.wr x z v) [M.eR m S.F, eEv sv L]) w')) := fun w1 hb => by
    rw [e2, e3]
    generalize farN x 268435456 = y
    exact (g.below hb).step 3 rfl _ (fun R W q => writeV q y z hv hn)
  have HCe := Lib.hid (fun w1 (hb : Below w.heap.size w w1) => rcells (g.below hb))
  clear e1 e2 e3 g h5 h6 q hx hd hc hh hv hn
  generalize farN x 268435456 = y at *
  generalize okD x z = bb at *
  generalize S.D.wr x z v = D1 at *
  go_enter Tryz.func8, Tryz.ntmps8
  go_wp2_with fail
  refine hp.out.mono ?_; rintro e w1 ⟨rfl, hb1⟩
  have HR1 := Lib.hid (HR.out w1 hb1)
  have c3 := (HCe.out w1 hb1).c3
  clear HR HCe hb1 hp
  go_wp2_with fail
  refine (HD.out w1).mono ?_; rintro e w2 ⟨rfl, q⟩; subst q
  go_wp2_with fail
  refine HR1.out.mono ?_; rintro e w3 ⟨rfl, g3⟩
  have HS := Lib.hid (settle_c r m c p u came sv S.cyc came D1 [M.eR m S.F, eEv sv L] R W w _ (Lib.hid g3))
  clear g3
  go_wp2_with fail
  refine HS.out.mono ?_; rintro e w4 ⟨rfl, g4⟩
  have G4 := Lib.hid g4; clear g4 HS
  go_wp2_with fail
  go_ret
  exact ⟨rfl, rb_close G4.out HC.out H5.out H6.out⟩
theorem rwrite_b (q : (eRB r S).P R W w) (x v : Nat) (z : Int) (hx : x < W64) (hv : v < W64) (hn : S.D.U.sent.length < 70368744177664) : Calls Tryz.prog 8 #[.pointer (some ⟨r, 0, none⟩), .int .u64 x, .int .i64 z, .int .u64 v] w (Upon (.bool (mayB 2 x z)) (eRB r (S.wr x z v)) R W w) := by
  cases hh : M.hasV x z
  · have e2 : mayB 2 x z = okD x z := by unfold mayB; rw [if_neg (by decide), if_pos (by decide), hh]; rfl
    have e3 : S.wr x z v = { S with D := (S.D.wr x z v).fol } := by unfold Bs.wr; rw [if_neg (by rw [hh]; decide)]
    rw [e2, e3]
    rcases dvK_cases x with ⟨e, h⟩ | ⟨e, h⟩ | ⟨e, h⟩ | ⟨e, h⟩
    · exact rwrite_1 q x v z hx hv hn hh e
    · exact rwrite_2 q x v z hx hv hn hh e
    · exact rwrite_3 q x v z hx hv hn hh e
    · exact rwrite_0 q x v z hx hv hn hh e
  · have e2 : mayB 2 x z = true := by unfold mayB; rw [if_neg (by decide), if_pos (by decide), hh]; rfl
    have e3 : S.wr x z v = { S with F := M.wrF S.F x z v } := by unfold Bs.wr; rw [if_pos hh]
    rw [e2, e3]
    exact rwrite_ram q x v z hx hh
end
end Go.Proofs.YtoicpikkcefheaaGreat
namespace Go.Proofs.YtoicpikkcefheaaGreat
open Go.ChangeShapes Go.WideShapes Go.ChangeAt Go.RowKit Go.Sort
open M (Fp Dj Cw Up Th Grp GrpAt jn exT)
set_option linter.unusedVariables false
set_option linter.unusedSimpArgs false
set_option maxRecDepth 20000
section
variable {R W : Fp} {w : World} {r m c p u : Nat} {v : Value} {cyc : Int} {came : Nat} {one : Bool}
theorem rcell_far (h : w.cell? ⟨r, 4, none⟩ = w.cell? ⟨r, 4, none⟩) (i j : Nat) (x : Value) (hn : j ≠ i) : (w.setCell ⟨r, j, none⟩ x).cell? ⟨r, i, none⟩ = w.cell? ⟨r, i, none⟩ := World.cell?_setCell_other _ _ _ _ (fun e => by injection e with e1 e2; exact hn e2)
theorem RCell.set4 (h : RCell w r m c p u v cyc came one) (x : Int) : RCell (w.setCell ⟨r, 4, none⟩ (.int .i64 x)) r m c p u v x came one := by
  have f := fun i hi => rcell_far (w := w) (r := r) rfl i 4 (.int .i64 x) hi
  exact ⟨by rw [sz_set]; exact h.lt, (f 0 (by decide)).trans h.c0, (f 1 (by decide)).trans h.c1, (f 2 (by decide)).trans h.c2, (f 3 (by decide)).trans h.c3, World.cell?_setCell_same _ _ _ h.c4, (f 5 (by decide)).trans h.c5, (f 6 (by decide)).trans h.c6, (f 7 (by decide)).trans h.c7, fun j => (World.frozen?_setCell _ _ _ _).trans (h.fz j)⟩
theorem RCell.set6 (h : RCell w r m c p u v cyc came one) (x : Nat) : RCell (w.setCell ⟨r, 6, none⟩ (.int .i64 (x : Nat))) r m c p u v cyc x one := by
  have f := fun i hi => rcell_far (w := w) (r := r) rfl i 6 (.int .i64 (x : Nat)) hi
  exact ⟨by rw [sz_set]; exact h.lt, (f 0 (by decide)).trans h.c0, (f 1 (by decide)).trans h.c1, (f 2 (by decide)).trans h.c2, (f 3 (by decide)).trans h.c3, (f 4 (by decide)).trans h.c4, (f 5 (by decide)).trans h.c5, World.cell?_setCell_same _ _ _ h.c6, (f 7 (by decide)).trans h.c7, fun j => (World.frozen?_setCell _ _ _ _).trans (h.fz j)⟩
theorem RCell.set7 (h : RCell w r m c p u v cyc came one) (x : Bool) : RCell (w.setCell ⟨r, 7, none⟩ (.bool x)) r m c p u v cyc came x := by
  have f := fun i hi => rcell_far (w := w) (r := r) rfl i 7 (.bool x) hi
  exact ⟨by rw [sz_set]; exact h.lt, (f 0 (by decide)).trans h.c0, (f 1 (by decide)).trans h.c1, (f 2 (by decide)).trans h.c2, (f 3 (by decide)).trans h.c3, (f 4 (by decide)).trans h.c4, (f 5 (by decide)).trans h.c5, (f 6 (by decide)).trans h.c6, World.cell?_setCell_same _ _ _ h.c7, fun j => (World.frozen?_setCell _ _ _ _).trans (h.fz j)⟩
theorem eBR_set {cyc' : Int} {came' : Nat} {one' : Bool} {j : Nat} {x : Value} (h : RCell w r m c p u v cyc came one → RCell (w.setCell ⟨r, j, none⟩ x) r m c p u v cyc' came' one') (q : (eBR r m c p u v cyc came one).P R W w) : (eBR r m c p u v cyc' came' one').P (Up R w (w.setCell ⟨r, j, none⟩ x)) (Up W w (w.setCell ⟨r, j, none⟩ x)) (w.setCell ⟨r, j, none⟩ x) ∧ Cw W w (w.setCell ⟨r, j, none⟩ x) := by
  obtain ⟨h1, h2, h3, h4⟩ := q
  exact ⟨⟨fun j => .inl (h1 j), fun k j q => q.imp (h2 k j) id, fun k j q => by rw [sz_set]; exact q.elim (h3 k j) (fun q => by have := q.2; rw [sz_set] at this; exact this), h h4⟩, cw_set (h1 j)⟩
end
theorem moreV2 {R W : Fp} {w : World} {b N N2 : Nat} {U : T.Ur} (q : (eV b N U).P R W w) (h : N ≤ N2) : (eV b N2 U).P (Up R w w) (Up W w w) w := by
  obtain ⟨e, K, r, sa, n, c, g, o, ta, m, d, h', p, x⟩ := q
  subst e
  exact ⟨rfl, K, r, sa, n, c, g, o, ta, m, d, h', p, x.mono h (fun k j q => .inl q) (fun k j q => q.elim (x.rlt k j) (·.2))⟩
theorem rget_ev {R0 W0 : Fp} {w0 w : World} {r m c p u came N : Nat} {v : Value} {cyc : Int} {one : Bool} {D : Dv} {F : Nat → Nat} {L : List Ev} (h : Grp R0 W0 w0 (dz (eBR r m c p u v cyc came one) c p u N D [M.eR m F, eEv v L]) w) : ∃ a n c' g o, v = .slice a n c' ∧ IsE w a n c' g o L := by
  obtain ⟨_, _, -, -, a, n, c', g, o, h1, h2, -⟩ := h.get 5 rfl
  exact ⟨a, n, c', g, o, h1, h2⟩
theorem come_up {S : P.St} {n : Nat} {x : Bool} (hn : n ≠ 1) : (P.comeF (S.setUp n x) n).up 1 = S.up 1 := by
  unfold P.comeF
  cases ((S.setUp n x).up n && (S.setUp n x).st n == 0)
  · exact P.set_ne2 S.up n 1 x (fun e => hn e.symm)
  · exact P.set_ne2 S.up n 1 x (fun e => hn e.symm)
set_option maxHeartbeats 4000000 in
theorem rtick_b {R W : Fp} {w : World} {r : Nat} {S : Bs} (q : (eRB r S).P R W w) (hc : Hid (-1 ≤ S.cyc ∧ S.cyc < 4611686018427387904)) : Calls Tryz.prog 14 #[.pointer (some ⟨r, 0, none⟩)] w (Upon (.tuple #[]) (eRB r S.tick) R W w) := by
  obtain ⟨m, c, p, u, sv, L, came0, hC, g, h5, h6⟩ := rb_open q
  obtain ⟨h4, c0, c1, c2, c3, c4, c5, c6, c7, fz⟩ := rcells g
  have f4 := fz 4
  have hw : IntKind.i64.wrap (S.cyc + 1) = S.cyc + 1 := IntWalk.i64_in _ (by have := hc.out; omega)
  have H5 := Lib.hid h5; have H6 := Lib.hid h6
  have HCo := Lib.hid hC
  have G1 : Hid (Grp R W w (dz (eBR r m c p u sv (S.cyc + 1) came0 S.D.one) c p u came0 S.D [M.eR m S.F, eEv sv L]) (w.setCell ⟨r, 4, none⟩ (.int .i64 (S.cyc + 1)))) := g.set 0 rfl (fun R W q => eBR_set (fun h => h.set4 _) q)
  have E1 : Hid (S.tick = { S with D := (tickEv (S.cyc + 1) S.ahead S.D).2.tick, ahead := (tickEv (S.cyc + 1) S.ahead S.D).1, cyc := S.cyc + 1 }) := rfl
  clear g h5 h6 q hC fz
  go_enter Tryz.func14, Tryz.ntmps14
  go_wp2_with fail
  clear c0 c1 c2 c3 c4 c5 c6 c7 f4 hw h4
  generalize hy : S.cyc + 1 = y at *
  generalize w.setCell ⟨r, 4, none⟩ (.int .i64 y) = w1 at *
  go_loopg [37] L.length (fun k s37 wx => ∃ (came : Nat) (D : Dv), L.length ≤ k + came ∧ came ≤ L.length ∧ Hid (Grp R W w (dz (eBR r m c p u sv y came D.one) c p u came D [M.eR m S.F, eEv sv L]) wx) ∧ Hid (tickEv y S.ahead S.D = tickEv y (L.drop came) D) ∧ Hid (D.S.up 1 = (D.one || T.upF D.U)))
  case atStart => exact ⟨came0, S.D, by omega, HCo.out.le, G1, by rw [HCo.out.ahead]; exact Lib.hid rfl, HCo.out.up⟩
  case round =>
    obtain ⟨came, D, hk, hle, HG, HT, HU⟩ := hrel
    obtain ⟨h4, c0, c1, c2, c3, c4, c5, c6, c7, fz⟩ := rcells HG.out
    obtain ⟨a, n, c', g, o, rfl, hE⟩ := rget_ev HG.out
    have hl := hE.len
    have HLl := Lib.hid hl
    have k4 := cell_regrown c4
    have k5 := cell_regrown c5
    have k6 := cell_regrown c6
    by_cases hend : came = n
    · subst hend
      have HX : Hid (tickEv y S.ahead S.D = ([], D)) := by
        show _ = _
        rw [HT.out, List.drop_eq_nil_of_le (by omega)]; rfl
      have hno : ¬ (came : Int) < came := by omega
      clear hE hl HT c0 c2 c3 c4 c5 c6 c7 fz hk hle
      go_wp2_with fail
      refine wp_region_quiet_below (by kernel_rfl) (by kernel_rfl) ?_
      repeat (go_big_quiet_step (fail))
      refine wpQuiet_nil ?_
      intro _ hw'
      obtain ⟨⟨dq, osq⟩, hw''⟩ := hw'
      subst hw''
      have hb := below_regrown wr dq osq
      generalize grow (redrawn wr dq) osq = w2 at hb ⊢
      have HG2 := Lib.hid (HG.out.below hb)
      clear hb HG k4 k5 k6 c1 h4
      have c1 := (rcells HG2.out).c1
      have HTk : Hid (Calls Tryz.prog 57 #[.pointer (some ⟨c, 0, none⟩)] w2 (fun e w' => e = .returned (.tuple #[]) ∧ Grp R W w (dz (eBR r m c p u (.slice a came c') y came D.one) c p u came D.tick [M.eR m S.F, eEv (.slice a came c') L]) w')) := HG2.out.step 1 rfl _ (fun R W q => tickK q)
      have HCn : Hid (RCo L came ⟨S.F, D.tick, [], y⟩) := ⟨List.drop_eq_nil_of_le (Nat.le_of_eq HLl.out), Nat.le_of_eq HLl.out.symm, HCo.out.few, HU.out, HCo.out.ok⟩
      go_wp2_with fail
      refine HTk.out.mono ?_; rintro e3 w3 ⟨rfl, g3⟩
      have G3 := Lib.hid g3; clear g3
      go_wp2_with fail
      go_end0
      refine ⟨rfl, ?_⟩
      rw [E1.out, HX.out]
      exact rb_close G3.out HCn.out H5.out H6.out
    · have hlt : came < n := by omega
      obtain ⟨x, hx⟩ : ∃ x, L[came]? = some x := ⟨_, List.getElem?_eq_getElem (by omega)⟩
      have hdrop : L.drop came = x :: L.drop (came + 1) := by
        have h1 := (List.getElem?_eq_some_iff.1 hx)
        obtain ⟨h1, h2⟩ := h1
        rw [← h2]; exact List.drop_eq_getElem_cons h1
      have hok : OkE x := HCo.out.ok x (List.mem_of_getElem? hx)
      obtain ⟨q0, q1, q2, q3⟩ := hE.at hx
      have ha := (hE.addr (by omega)).1
      have hgl := (hE.addr (by omega)).2
      subst ha
      have kk : (came : Int) < n := by omega
      have kk1 : IntKind.i64.wrap ((came : Int) + 1) = (came : Int) + 1 := IntWalk.i64_in _ (by have := HCo.out.few; omega)
      have kn : ((came : Nat) : Int).toNat = came := by omega
      have k0 := cell_regrown q0
      by_cases he : x.cyc = y
      · have he' : (x.cyc == y) = true := by rw [he]; exact beq_self_eq_true y
        have HX : Hid (tickEv y S.ahead S.D = tickEv y (L.drop (came + 1)) (D.come x)) := by
          show _ = _
          rw [HT.out, hdrop]
          show (if x.cyc = y then _ else _) = _
          rw [if_pos he]
        have HLE := Lib.hid hE
        have HOK := Lib.hid hok
        clear hE HT c0 c1 c2 c3 c4 c5 c6 c7 fz q1 q2 q3 q0 hok hdrop
        go_wp2_with fail
        refine wp_region_quiet_below (by kernel_rfl) (by kernel_rfl) ?_
        repeat (go_big_quiet_step (fail))
        refine wpQuiet_nil ?_
        intro _ hw'
        obtain ⟨⟨dq, osq⟩, hw''⟩ := hw'
        subst hw''
        have hb := below_regrown wr dq osq
        generalize grow (redrawn wr dq) osq = w2 at hb ⊢
        have HG2 := Lib.hid (HG.out.below hb)
        have HE2 := Lib.hid (HLE.out.below hb)
        clear hb HG k4 k5 k6 k0 h4
        obtain ⟨h4, c0, c1, c2, c3, c4, c5, c6, c7, fz⟩ := rcells HG2.out
        obtain ⟨q0, q1, q2, q3⟩ := HE2.out.at hx
        have f6 := fz 6
        have gl2 := (HE2.out.addr (by omega)).2
        obtain ⟨xc, xk, xn, xv⟩ := x
        dsimp only at q0 q1 q2 q3 he he'
        subst he
        clear c0 c1 c2 c3 c4 c7 fz
        go_wp2_with fail
        go_region
        have X0 : ((w2.alloc (Obj.cells #[.int .i64 xc, .int .i64 xk, .int .i64 xn, .int .u64 (xv : Nat)] 38)).drew).cell? ⟨w2.heap.size, 1, none⟩ = some (.int .i64 xk) := World.cell?_alloc_at _ _ _ _ rfl
        have X2 : ((w2.alloc (Obj.cells #[.int .i64 xc, .int .i64 xk, .int .i64 xn, .int .u64 (xv : Nat)] 38)).drew).cell? ⟨w2.heap.size, 2, none⟩ = some (.int .i64 xn) := World.cell?_alloc_at _ _ _ _ rfl
        have X3 : ((w2.alloc (Obj.cells #[.int .i64 xc, .int .i64 xk, .int .i64 xn, .int .u64 (xv : Nat)] 38)).drew).cell? ⟨w2.heap.size, 3, none⟩ = some (.int .u64 (xv : Nat)) := World.cell?_alloc_at _ _ _ _ rfl
        have HG3 := Lib.hid (HG2.out.below ((below_one w2 (Obj.cells #[.int .i64 xc, .int .i64 xk, .int .i64 xn, .int .u64 (xv : Nat)] 38)).drew))
        have ner : ¬ r = w2.heap.size := by omega
        have ner2 : ¬ w2.heap.size = r := by omega
        generalize (w2.alloc (Obj.cells #[.int .i64 xc, .int .i64 xk, .int .i64 xn, .int .u64 (xv : Nat)] 38)).drew = w3 at *
        generalize w2.heap.size = eb at *
        clear c5 c6 f6 q0 q1 q2 q3 gl2 hgl HE2 HG2 h4
        obtain ⟨h4, c0, c1, c2, c3, c4, c5, c6, c7, fz⟩ := rcells HG3.out
        have f6 := fz 6
        have HG4 : Hid (Grp R W w (dz (eBR r m c p u (.slice (some ⟨g, o, none⟩) n c') xc (came + 1) D.one) c p u came D [M.eR m S.F, eEv (.slice (some ⟨g, o, none⟩) n c') L]) (w3.setCell ⟨r, 6, none⟩ (.int .i64 ((came : Int) + 1)))) := HG3.out.set 0 rfl (fun R W q => eBR_set (j := 6) (x := .int .i64 ((came : Int) + 1)) (fun h => h.set6 (came + 1)) q)
        have nf : ∀ j, (w3.setCell ⟨r, 6, none⟩ (.int .i64 ((came : Int) + 1))).cell? ⟨eb, j, none⟩ = w3.cell? ⟨eb, j, none⟩ := fun j => World.cell?_setCell_other _ _ _ _ (fun e => by injection e with e1 e2; exact ner e1)
        have Y1 := (nf 1).trans X0; have Y2 := (nf 2).trans X2; have Y3 := (nf 3).trans X3
        have HG4b : Hid (Grp R W w (dz (eBR r m c p u (.slice (some ⟨g, o, none⟩) n c') xc (came + 1) D.one) c p u (came + 1) D [M.eR m S.F, eEv (.slice (some ⟨g, o, none⟩) n c') L]) (w3.setCell ⟨r, 6, none⟩ (.int .i64 ((came : Int) + 1)))) := HG4.out.set (w' := (w3.setCell ⟨r, 6, none⟩ (.int .i64 ((came : Int) + 1)))) 3 rfl (fun R W q => ⟨moreV2 q (Nat.le_succ _), Cw.refl _ _⟩)
        obtain ⟨k, rfl⟩ : ∃ k, gk = k + 1 := ⟨gk - 1, by have := HLl.out; omega⟩
        have hl1 : came + 1 ≤ L.length := by have := HLl.out; omega
        have hk1 : L.length ≤ k + (came + 1) := by omega
        have HN := Lib.hid (show came < 70368744177664 ∧ came + 1 < 70368744177664 by have := HCo.out.few; omega)
        clear X2 X3 nf hx hlt hk hle HLl HLE
        rcases HOK.out with ⟨e1, e2, e3⟩ | ⟨e1, e2, e3, e4⟩
        · dsimp only at e1 e2 e3
          subst e1 e2
          rw [show D.come ⟨xc, 1, 0, xv⟩ = (D.give xv).fol by unfold Dv.come; rw [if_pos rfl]] at HX
          have hw8 : IntKind.u8.wrap (xv : Int) = (xv : Int) := by rw [IntKind.wrap_u8]; omega
          have HR : Hid (∀ w5, Below (w3.setCell ⟨r, 6, none⟩ (.int .i64 ((came : Int) + 1))).heap.size (w3.setCell ⟨r, 6, none⟩ (.int .i64 ((came : Int) + 1))) w5 → Calls Tryz.prog 55 #[.pointer (some ⟨u, 0, none⟩), .int .u8 (xv : Nat)] w5 (fun e w' => e = .returned (.tuple #[]) ∧ Grp R W w (dz (eBR r m c p u (.slice (some ⟨g, o, none⟩) n c') xc (came + 1) D.one) c p u (came + 1) (D.give xv) [M.eR m S.F, eEv (.slice (some ⟨g, o, none⟩) n c') L]) w')) := fun w5 hb => (HG4.out.below hb).step 3 rfl _ (fun R W q => giveV q HN.out.1 xv (by omega))
          clear e3
          go_wp2_with fail
          have d3 := (rcells HG4.out).c3
          clear X0 c0 c1 c2 c3 c4 c5 c6 c7 fz f6 h4 HG3 Y1 Y2
          generalize (w3.setCell ⟨r, 6, none⟩ (.int .i64 ((came : Int) + 1))) = w4 at *
          refine wp_region_still_tail 7 (by kernel_rfl) (by kernel_rfl) ?_
          simp only [List.take_succ_cons, List.take_zero, List.drop_succ_cons, List.drop_zero]
          change wpStill _ _ w4.drew (fun a' => wpList _ _ _ _ a' w4.drew) _ _
          have HR1 := Lib.hid (HR.out w4.drew ((Below.refl _ _).drew))
          have d3' : w4.drew.cell? ⟨r, 3, none⟩ = some (.pointer (some ⟨u, 0, none⟩)) := d3
          have Y3' : w4.drew.cell? ⟨eb, 3, none⟩ = some (.int .u64 (xv : Nat)) := Y3
          clear HR d3 Y3
          generalize w4.drew = wq at *
          repeat still_step
          refine wpStill_nil ?_
          go_wp2_with fail
          refine HR1.out.mono ?_; rintro e w5 ⟨rfl, g1⟩
          have G1 := Lib.hid g1; clear g1 HR1 d3' Y3'
          go_wp2_with fail
          refine (settle_c r m c p u (came + 1) (.slice (some ⟨g, o, none⟩) n c') xc (came + 1) (D.give xv) [M.eR m S.F, eEv (.slice (some ⟨g, o, none⟩) n c') L] R W w w5 G1).mono ?_; rintro e w6 ⟨rfl, g2⟩
          have G2 := Lib.hid g2; clear g2
          go_wp2_with fail
          go_roundg k
          case measure => omega
          case rel => exact ⟨came + 1, (D.give xv).fol, hk1, hl1, G2, HX, fol_up _⟩
        · dsimp only at e1 e2 e3 e4
          subst e1
          have hB : ((xv : Int) == 1) = (xv == 1) := by
            have : xv = 0 ∨ xv = 1 := by omega
            rcases this with rfl | rfl <;> rfl
          obtain ⟨i, rfl⟩ := Int.eq_ofNat_of_zero_le (by omega : 0 ≤ xn)
          by_cases hi1 : i = 1
          · subst hi1
            rw [show D.come ⟨xc, 2, ((1 : Nat) : Int), xv⟩ = (D.raise xv).fol by unfold Dv.come; rw [if_neg (show ¬ (2 : Int) = 1 by decide), if_pos (show ((1 : Nat) : Int) = 1 from rfl)]] at HX
            change (w3.setCell ⟨r, 6, none⟩ (.int .i64 ((came : Int) + 1))).cell? ⟨eb, 2, none⟩ = some (.int .i64 1) at Y2
            have f7 := (rcells HG4.out).fz 7
            have d7 := (rcells HG4.out).c7
            have HG5 : Hid (Grp R W w (dz (eBR r m c p u (.slice (some ⟨g, o, none⟩) n c') xc (came + 1) (xv == 1)) c p u (came + 1) (D.raise xv) [M.eR m S.F, eEv (.slice (some ⟨g, o, none⟩) n c') L]) ((w3.setCell ⟨r, 6, none⟩ (.int .i64 ((came : Int) + 1))).setCell ⟨r, 7, none⟩ (.bool (xv == 1)))) :=
              HG4b.out.set 0 rfl (fun R W q => eBR_set (j := 7) (x := .bool (xv == 1)) (fun h => h.set7 (xv == 1)) q)
            clear e2 e3 e4 X0 c0 c1 c2 c3 c4 c5 c7 fz HG3
            go_wp2_with fail
            refine (settle_c r m c p u (came + 1) (.slice (some ⟨g, o, none⟩) n c') xc (came + 1) (D.raise xv) [M.eR m S.F, eEv (.slice (some ⟨g, o, none⟩) n c') L] R W w _ HG5).mono ?_; rintro e w6 ⟨rfl, g2⟩
            have G2 := Lib.hid g2; clear g2
            go_wp2_with fail
            go_roundg k
            case measure => omega
            case rel => exact ⟨came + 1, (D.raise xv).fol, hk1, hl1, G2, HX, fol_up _⟩
          · have d1 : ((i : Int) == 1) = false := by rw [beq_eq_false_iff_ne]; omega
            have e5 : D.come ⟨xc, 2, (i : Int), xv⟩ = D.line i xv := by
              unfold Dv.come
              rw [if_neg (by show ¬ (2 : Int) = 1; decide), if_neg (by show ¬ (i : Int) = 1; omega)]
              rfl
            rw [e5] at HX
            have HR : Hid (∀ w5, Below (w3.setCell ⟨r, 6, none⟩ (.int .i64 ((came : Int) + 1))).heap.size (w3.setCell ⟨r, 6, none⟩ (.int .i64 ((came : Int) + 1))) w5 → Calls Tryz.prog 56 #[.pointer (some ⟨p, 0, none⟩), .int .i64 (i : Nat), .bool (xv == 1)] w5 (fun e w' => e = .returned (.bool true) ∧ Grp R W w (dz (eBR r m c p u (.slice (some ⟨g, o, none⟩) n c') xc (came + 1) D.one) c p u (came + 1) (D.line i xv) [M.eR m S.F, eEv (.slice (some ⟨g, o, none⟩) n c') L]) w')) := fun w5 hb => (HG4b.out.below hb).step 2 rfl _ (fun R W q => lineZ q i (by omega) (xv == 1))
            have HUL : Hid ((D.line i xv).S.up 1 = ((D.line i xv).one || T.upF (D.line i xv).U)) := by
              show (P.comeF (D.S.setUp i (xv == 1)) i).up 1 = (D.one || T.upF D.U)
              rw [come_up hi1]; exact HU.out
            clear e5
            go_wp2_with fail
            have d3 := (rcells HG4.out).c2
            clear X0 c0 c1 c2 c3 c4 c5 c6 c7 fz f6 h4 HG3 Y1 e2 e3 e4
            generalize (w3.setCell ⟨r, 6, none⟩ (.int .i64 ((came : Int) + 1))) = w4 at *
            refine wp_region_still_tail 9 (by kernel_rfl) (by kernel_rfl) ?_
            simp only [List.take_succ_cons, List.take_zero, List.drop_succ_cons, List.drop_zero]
            change wpStill _ _ w4.drew (fun a' => wpList _ _ _ _ a' w4.drew) _ _
            have HR1 := Lib.hid (HR.out w4.drew ((Below.refl _ _).drew))
            have d3' : w4.drew.cell? ⟨r, 2, none⟩ = some (.pointer (some ⟨p, 0, none⟩)) := d3
            have Y2' : w4.drew.cell? ⟨eb, 2, none⟩ = some (.int .i64 (i : Nat)) := Y2
            have Y3' : w4.drew.cell? ⟨eb, 3, none⟩ = some (.int .u64 (xv : Nat)) := Y3
            clear HR d3 Y3 Y2
            generalize w4.drew = wq at *
            repeat still_step
            refine wpStill_nil ?_
            go_wp2_with fail
            refine HR1.out.mono ?_; rintro e w5 ⟨rfl, g1⟩
            have HI : Hid (P.InvS (D.line i xv).S) := by
              obtain ⟨_, _, qz⟩ := g1.get 2 rfl
              exact invZ qz
            have G1 := Lib.hid g1; clear g1 HR1 d3' Y3' Y2'
            go_wp2_with fail
            refine (settle_c r m c p u (came + 1) (.slice (some ⟨g, o, none⟩) n c') xc (came + 1) (D.line i xv) [M.eR m S.F, eEv (.slice (some ⟨g, o, none⟩) n c') L] R W w w5 G1).mono ?_; rintro e w6 ⟨rfl, g2⟩
            rw [fol_same _ HUL.out HI.out] at g2
            have G2 := Lib.hid g2; clear g2
            go_wp2_with fail
            go_roundg k
            case measure => omega
            case rel => exact ⟨came + 1, D.line i xv, hk1, hl1, G2, HX, HUL⟩
      · have he' : (x.cyc == y) = false := by rw [beq_eq_false_iff_ne]; exact he
        have HX : Hid (tickEv y S.ahead S.D = (x :: L.drop (came + 1), D)) := by
          show _ = _
          rw [HT.out, hdrop]
          show (if x.cyc = y then _ else _) = _
          rw [if_neg he]
        have HCn : Hid (RCo L came ⟨S.F, D.tick, x :: L.drop (came + 1), y⟩) := ⟨hdrop, hle, HCo.out.few, HU.out, HCo.out.ok⟩
        clear hE HT c0 c1 c2 c3 c4 c5 c6 c7 fz q1 q2 q3 q0 hdrop
        go_wp2_with fail
        refine wp_region_quiet_below (by kernel_rfl) (by kernel_rfl) ?_
        repeat (go_big_quiet_step (fail))
        refine wpQuiet_nil ?_
        intro _ hw'
        obtain ⟨⟨dq, osq⟩, hw''⟩ := hw'
        subst hw''
        have hb := below_regrown wr dq osq
        generalize grow (redrawn wr dq) osq = w2 at hb ⊢
        have HG2 := Lib.hid (HG.out.below hb)
        clear hb HG k4 k5 k6 k0 h4
        have c1 := (rcells HG2.out).c1
        have HTk : Hid (Calls Tryz.prog 57 #[.pointer (some ⟨c, 0, none⟩)] w2 (fun e w' => e = .returned (.tuple #[]) ∧ Grp R W w (dz (eBR r m c p u (.slice (some ⟨g, o, none⟩) n c') y came D.one) c p u came D.tick [M.eR m S.F, eEv (.slice (some ⟨g, o, none⟩) n c') L]) w')) := HG2.out.step 1 rfl _ (fun R W q => tickK q)
        go_wp2_with fail
        refine HTk.out.mono ?_; rintro e3 w3 ⟨rfl, g3⟩
        have G3 := Lib.hid g3; clear g3
        go_wp2_with fail
        go_end0
        refine ⟨rfl, ?_⟩
        rw [E1.out, HX.out]
        exact rb_close G3.out HCn.out H5.out H6.out
end Go.Proofs.YtoicpikkcefheaaGreat
