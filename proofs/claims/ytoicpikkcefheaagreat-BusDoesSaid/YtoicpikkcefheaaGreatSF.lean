/- The document's bus: May. -/
import Derived.Test.YtoicpikkcefheaaGreatSD
import Derived.Deep.RegionHeld3
namespace Go.Proofs.YtoicpikkcefheaaGreat
open Go.ChangeShapes Go.WideShapes Go.ChangeAt Go.RowKit Go.Sort
open M (Fp Dj Cw Up Th Grp GrpAt jn exT)
set_option linter.unusedVariables false
set_option linter.unusedSimpArgs false
set_option maxRecDepth 20000
/-- Nothing. -/
def eEmp : Th where
  P R W w := (∀ k j, ¬ R k j) ∧ ∀ k j, ¬ W k j
  kept h _ _ := h
  wr h := fun k j q => (h.2 k j q).elim
  rlt h := fun k j q => (h.1 k j q).elim
theorem grp_emp (w : World) : Grp (fun _ _ => False) (fun _ _ => False) w [eEmp] w := M.grp_start (E := eEmp) ⟨fun _ _ q => q, fun _ _ q => q⟩
section
variable {R0 W0 R W : Fp} {w0 w : World} {l : List Th}
theorem copyK_n (h : Grp R0 W0 w0 l w) {b s a t : Nat} (q : (eK b s a t).P R W w) : Calls Tryz.prog 50 #[.pointer (some ⟨b, 0, none⟩)] w (fun e w' => ∃ c', e = .returned (.pointer (some ⟨c', 0, none⟩)) ∧ Grp R0 W0 w0 (l ++ [eK c' s a t]) w' ∧ Below w.heap.size w w') := by
  refine (K.copyr_c w b s a t q.2.1).mono ?_
  rintro e w' ⟨c', rfl, h1, h2, hb⟩
  exact ⟨c', rfl, h.push hb (eC_new h2 q.2.2) (fun k j hk => by rw [hk]; exact h1), hb⟩
theorem own_lt {b e p t ce cp ct u v s : Nat} {S : P.St} (h : P.IsRP w b e p t ce cp ct u v s S) : ∀ k j, P.own4 b e p t k j → k < w.heap.size := fun k j q => by
  rcases q with q | q | q | q <;> rw [q] <;> first | exact h.raw.lb | exact h.raw.le | exact h.raw.lp | exact h.raw.lt
theorem eZ_new {b e p t ce cp ct u v s : Nat} {S : P.St} (h : P.IsRP w b e p t ce cp ct u v s S) : (eZ b S).P (P.own4 b e p t) (P.own4 b e p t) w := ⟨fun _ _ q => q, own_lt h, e, p, t, ce, cp, ct, u, v, s, fun _ _ q => q, h⟩
theorem copyZ_n (h : Grp R0 W0 w0 l w) {b : Nat} {S : P.St} (q : (eZ b S).P R W w) : Calls Tryz.prog 51 #[.pointer (some ⟨b, 0, none⟩)] w (fun e w' => ∃ c', e = .returned (.pointer (some ⟨c', 0, none⟩)) ∧ Grp R0 W0 w0 (l ++ [eZ c' S]) w' ∧ Below w.heap.size w w') := by
  obtain ⟨h1, h2, e, p, t, ce, cp, ct, u, v, s, h3, h4⟩ := q
  refine (P.copy_r b e p t ce cp ct u v s S w (Lib.hid h4)).mono ?_
  rintro e0 w' ⟨b', e', p', t', ce', cp', ct', rfl, ⟨u', v', s', hr⟩, hn, hb⟩
  exact ⟨b', rfl, h.push hb (eZ_new hr) hn, hb⟩
theorem copyV_n (h : Grp R0 W0 w0 l w) {b N : Nat} {U : T.Ur} (q : (eV b N U).P R W w) (hN : N < 70368744177664) (hn : U.sent.length < 70368744177664) : Calls Tryz.prog 52 #[.pointer (some ⟨b, 0, none⟩)] w (fun e w' => ∃ c', e = .returned (.pointer (some ⟨c', 0, none⟩)) ∧ Grp R0 W0 w0 (l ++ [eV c' N U]) w' ∧ Below w.heap.size w w') := by
  refine (T.copyr_c W N b U w (Lib.hid q.2) (Lib.hid hN) (Lib.hid hn)).mono ?_
  rintro e w' ⟨b', R', rfl, h1, h2, hb⟩
  exact ⟨b', rfl, h.push hb (R1 := R') (W1 := R') ⟨rfl, h1⟩ h2, hb⟩
theorem copyM_n (h : Grp R0 W0 w0 l w) {b : Nat} {F : Nat → Nat} (q : (M.eR b F).P R W w) : Calls Tryz.prog 49 #[.pointer (some ⟨b, 0, none⟩)] w (fun e w' => ∃ c', e = .returned (.pointer (some ⟨c', 0, none⟩)) ∧ Grp R0 W0 w0 (l ++ [M.eR c' F]) w' ∧ Below w.heap.size w w') := by
  refine (M.copyr_c W b F w (Lib.hid q.2)).mono ?_
  rintro e w' ⟨b', R', rfl, h1, h2, hb⟩
  exact ⟨b', rfl, h.push hb (R1 := R') (W1 := R') ⟨rfl, h1⟩ h2, hb⟩
end
theorem cells123 {w w' : World} {b : Nat} {v1 v2 v3 : Value} (hb : b < w.heap.size) (c1 : w.cell? ⟨b, 1, none⟩ = some v1) (c2 : w.cell? ⟨b, 2, none⟩ = some v2) (c3 : w.cell? ⟨b, 3, none⟩ = some v3) (h : Below w.heap.size w w') :
    w'.cell? ⟨b, 1, none⟩ = some v1 ∧ w'.cell? ⟨b, 2, none⟩ = some v2 ∧ w'.cell? ⟨b, 3, none⟩ = some v3 :=
  ⟨(h.cell (p := ⟨b, 1, none⟩) hb).trans c1, (h.cell (p := ⟨b, 2, none⟩) hb).trans c2, (h.cell (p := ⟨b, 3, none⟩) hb).trans c3⟩
section
variable {R W : Fp} {w : World} {r : Nat} {S : Bs}
theorem rmay_out (q : (eRB r S).P R W w) (k : Int) (hk : ¬ (k = 0 ∨ k = 3)) (hk2 : ¬ (k = 1 ∨ k = 2)) (x : Nat) (z : Int) : Calls Tryz.prog 16 #[.pointer (some ⟨r, 0, none⟩), .int .i64 k, .int .u64 x, .int .i64 z] w (RetB false w) := by
  by_cases hl : k < 0
  · clear hk hk2
    go_enter Tryz.func16, Tryz.ntmps16
    go_wp2_with fail
    go_ret
    exact ⟨rfl, (by repeat (first | (with_reducible first | exact Below.refl _ _ | assumption | exact Nat.le_refl _ | refine Below.drew ?_ | refine Below.alloc ?_ ?_ _ | refine below_drewN ?_ _ | refine Below.setCell ?_ ?_ _ | refine le_alloc ?_ | refine le_set ?_ | refine le_drew ?_ | refine le_drewN ?_ | refine below_step (by assumption) ?_ ?_ | refine le_below (by assumption) ?_) | (dsimp only; omega)))⟩
  · have h3 : (3 : Int) < k := by omega
    have hl2 : decide (k < 0) = false := decide_eq_false hl
    clear hk hk2
    go_enter Tryz.func16, Tryz.ntmps16
    go_wp2_with fail
    go_ret
    exact ⟨rfl, (by repeat (first | (with_reducible first | exact Below.refl _ _ | assumption | exact Nat.le_refl _ | refine Below.drew ?_ | refine Below.alloc ?_ ?_ _ | refine below_drewN ?_ _ | refine Below.setCell ?_ ?_ _ | refine le_alloc ?_ | refine le_set ?_ | refine le_drew ?_ | refine le_drewN ?_ | refine below_step (by assumption) ?_ ?_ | refine le_below (by assumption) ?_) | (dsimp only; omega)))⟩
theorem rmay_plain (q : (eRB r S).P R W w) (k : Int) (hk : k = 0 ∨ k = 1 ∨ k = 2 ∨ k = 3) (x : Nat) (z : Int) (hx : x < W64) (hh : M.hasV x z = true) : Calls Tryz.prog 16 #[.pointer (some ⟨r, 0, none⟩), .int .i64 k, .int .u64 x, .int .i64 z] w (RetB true w) := by
  have hp := Lib.hid (rplain_q q x z hx)
  rw [hh] at hp
  clear q hx hh
  rcases hk with rfl | rfl | rfl | rfl
  · go_enter Tryz.func16, Tryz.ntmps16
    go_wp2_with fail
    refine hp.out.mono ?_; rintro e w1 ⟨rfl, hb1⟩
    go_wp2_with fail
    go_ret
    exact ⟨rfl, hb1⟩
  · go_enter Tryz.func16, Tryz.ntmps16
    go_wp2_with fail
    refine hp.out.mono ?_; rintro e w1 ⟨rfl, hb1⟩
    go_wp2_with fail
    go_ret
    exact ⟨rfl, hb1⟩
  · go_enter Tryz.func16, Tryz.ntmps16
    go_wp2_with fail
    refine hp.out.mono ?_; rintro e w1 ⟨rfl, hb1⟩
    go_wp2_with fail
    go_ret
    exact ⟨rfl, hb1⟩
  · go_enter Tryz.func16, Tryz.ntmps16
    go_wp2_with fail
    refine hp.out.mono ?_; rintro e w1 ⟨rfl, hb1⟩
    go_wp2_with fail
    go_ret
    exact ⟨rfl, hb1⟩
theorem rmay_not (q : (eRB r S).P R W w) (k : Int) (hk : k = 0 ∨ k = 3) (x : Nat) (z : Int) (hx : x < W64) (hh : M.hasV x z = false) : Calls Tryz.prog 16 #[.pointer (some ⟨r, 0, none⟩), .int .i64 k, .int .u64 x, .int .i64 z] w (RetB false w) := by
  have hp := Lib.hid (rplain_q q x z hx)
  rw [hh] at hp
  clear q hx hh
  rcases hk with rfl | rfl
  · go_enter Tryz.func16, Tryz.ntmps16
    go_wp2_with fail
    refine hp.out.mono ?_; rintro e w1 ⟨rfl, hb1⟩
    go_wp2_with fail
    go_ret
    exact ⟨rfl, hb1⟩
  · go_enter Tryz.func16, Tryz.ntmps16
    go_wp2_with fail
    refine hp.out.mono ?_; rintro e w1 ⟨rfl, hb1⟩
    go_wp2_with fail
    go_ret
    exact ⟨rfl, hb1⟩
set_option maxHeartbeats 4000000 in
theorem rmay_dev1 (q : (eRB r S).P R W w) (x : Nat) (z : Int) (hx : x < W64) (hh : M.hasV x z = false) (hn : S.D.U.sent.length < 70368744177664) : Calls Tryz.prog 16 #[.pointer (some ⟨r, 0, none⟩), .int .i64 1, .int .u64 x, .int .i64 z] w (RetB (okD x z) w) := by
  have hp := Lib.hid (rplain_q q x z hx)
  rw [hh] at hp
  obtain ⟨m, c, p, u, sv, L, came, hc, g, h5, h6⟩ := rb_open q
  have HG := Lib.hid g
  have HN := Lib.hid hc.lt
  have HS := Lib.hid hn
  have HX := Lib.hid hx
  clear g h5 h6 q hc hx hh hn
  go_enter Tryz.func16, Tryz.ntmps16
  go_wp2_with fail
  refine hp.out.mono ?_; rintro e w1 ⟨rfl, hb1⟩
  have HG1 := Lib.hid (HG.out.below hb1)
  have HB1 := Lib.hid hb1
  clear hb1 hp HG
  obtain ⟨h4, c0, c1, c2, c3, c4, c5, c6, c7, fz⟩ := rcells HG1.out
  clear c0 c4 c5 c6 c7 fz
  go_wp2_with fail
  go_region_held3 (fun w' => w'.cell? ⟨r, 1, none⟩ = some (.pointer (some ⟨c, 0, none⟩)) ∧ w'.cell? ⟨r, 2, none⟩ = some (.pointer (some ⟨p, 0, none⟩)) ∧ w'.cell? ⟨r, 3, none⟩ = some (.pointer (some ⟨u, 0, none⟩))) (exact cells123 h4 c1 c2 c3 (by repeat (first | (with_reducible first | exact Below.refl _ _ | assumption | exact Nat.le_refl _ | refine Below.drew ?_ | refine Below.alloc ?_ ?_ _ | refine Below.setCell ?_ ?_ _ | refine le_alloc ?_ | refine le_set ?_ | refine le_drew ?_ | refine below_step (by assumption) ?_ ?_ | refine le_below (by assumption) ?_) | (dsimp only; omega)))) (first
    | (go_at_call 50; refine (copyK_n ((grp_emp w1).below (by repeat (first | (with_reducible first | exact Below.refl _ _ | assumption | exact Nat.le_refl _ | refine Below.drew ?_ | refine Below.alloc ?_ ?_ _ | refine Below.setCell ?_ ?_ _ | refine le_alloc ?_ | refine le_set ?_ | refine le_drew ?_ | refine below_step (by assumption) ?_ ?_ | refine le_below (by assumption) ?_) | (dsimp only; omega)))) ((HG1.out.below (by repeat (first | (with_reducible first | exact Below.refl _ _ | assumption | exact Nat.le_refl _ | refine Below.drew ?_ | refine Below.alloc ?_ ?_ _ | refine Below.setCell ?_ ?_ _ | refine le_alloc ?_ | refine le_set ?_ | refine le_drew ?_ | refine below_step (by assumption) ?_ ?_ | refine le_below (by assumption) ?_) | (dsimp only; omega)))).get 1 rfl).choose_spec.choose_spec).mono ?_; rintro e w2 ⟨c', rfl, g2, hb2⟩; have G2 := Lib.hid g2; clear g2)
    | (go_at_call 51; refine (copyZ_n (G2.out.below (by repeat (first | (with_reducible first | exact Below.refl _ _ | assumption | exact Nat.le_refl _ | refine Below.drew ?_ | refine Below.alloc ?_ ?_ _ | refine Below.setCell ?_ ?_ _ | refine le_alloc ?_ | refine le_set ?_ | refine le_drew ?_ | refine below_step (by assumption) ?_ ?_ | refine le_below (by assumption) ?_) | (dsimp only; omega)))) ((HG1.out.below (by repeat (first | (with_reducible first | exact Below.refl _ _ | assumption | exact Nat.le_refl _ | refine Below.drew ?_ | refine Below.alloc ?_ ?_ _ | refine Below.setCell ?_ ?_ _ | refine le_alloc ?_ | refine le_set ?_ | refine le_drew ?_ | refine below_step (by assumption) ?_ ?_ | refine le_below (by assumption) ?_) | (dsimp only; omega)))).get 2 rfl).choose_spec.choose_spec).mono ?_; rintro e w3 ⟨p', rfl, g3, hb3⟩; have G3 := Lib.hid g3; clear g3)
    | (go_at_call 52; refine (copyV_n (G3.out.below (by repeat (first | (with_reducible first | exact Below.refl _ _ | assumption | exact Nat.le_refl _ | refine Below.drew ?_ | refine Below.alloc ?_ ?_ _ | refine Below.setCell ?_ ?_ _ | refine le_alloc ?_ | refine le_set ?_ | refine le_drew ?_ | refine below_step (by assumption) ?_ ?_ | refine le_below (by assumption) ?_) | (dsimp only; omega)))) ((HG1.out.below (by repeat (first | (with_reducible first | exact Below.refl _ _ | assumption | exact Nat.le_refl _ | refine Below.drew ?_ | refine Below.alloc ?_ ?_ _ | refine Below.setCell ?_ ?_ _ | refine le_alloc ?_ | refine le_set ?_ | refine le_drew ?_ | refine below_step (by assumption) ?_ ?_ | refine le_below (by assumption) ?_) | (dsimp only; omega)))).get 3 rfl).choose_spec.choose_spec HN.out HS.out).mono ?_; rintro e w4 ⟨u', rfl, g4, hb4⟩; have G4 := Lib.hid g4; clear g4))
  all_goals
    have G5 : Hid (Grp (fun _ _ => False) (fun _ _ => False) w1 (dz eEmp c' p' u' came S.D []) (w4.alloc (Obj.cells #[.pointer none, .pointer (some ⟨c', 0, none⟩), .pointer (some ⟨p', 0, none⟩), .pointer (some ⟨u', 0, none⟩), .int .i64 0, .slice none 0 0, .int .i64 0, .bool false] 75))) := Lib.hid (G4.out.below (below_one w4 _))
    have x1 : (w4.alloc (Obj.cells #[.pointer none, .pointer (some ⟨c', 0, none⟩), .pointer (some ⟨p', 0, none⟩), .pointer (some ⟨u', 0, none⟩), .int .i64 0, .slice none 0 0, .int .i64 0, .bool false] 75)).cell? ⟨w4.heap.size, 1, none⟩ = some (.pointer (some ⟨c', 0, none⟩)) := by rw [World.cell?_alloc_at _ _ _ _ rfl]; rfl
    have x2 : (w4.alloc (Obj.cells #[.pointer none, .pointer (some ⟨c', 0, none⟩), .pointer (some ⟨p', 0, none⟩), .pointer (some ⟨u', 0, none⟩), .int .i64 0, .slice none 0 0, .int .i64 0, .bool false] 75)).cell? ⟨w4.heap.size, 2, none⟩ = some (.pointer (some ⟨p', 0, none⟩)) := by rw [World.cell?_alloc_at _ _ _ _ rfl]; rfl
    have x3 : (w4.alloc (Obj.cells #[.pointer none, .pointer (some ⟨c', 0, none⟩), .pointer (some ⟨p', 0, none⟩), .pointer (some ⟨u', 0, none⟩), .int .i64 0, .slice none 0 0, .int .i64 0, .bool false] 75)).cell? ⟨w4.heap.size, 3, none⟩ = some (.pointer (some ⟨u', 0, none⟩)) := by rw [World.cell?_alloc_at _ _ _ _ rfl]; rfl
    generalize w4.alloc (Obj.cells #[.pointer none, .pointer (some ⟨c', 0, none⟩), .pointer (some ⟨p', 0, none⟩), .pointer (some ⟨u', 0, none⟩), .int .i64 0, .slice none 0 0, .int .i64 0, .bool false] 75) = w5 at *
    generalize w4.heap.size = ob at x1 x2 x3 ⊢
    have HL := Lib.hid (look_c eEmp ob c' p' u' came S.D [] _ _ w1 w5 G5 HN x1 x2 x3 x z HX.out)
    clear x1 x2 x3 c1 c2 c3 h4 G5
    go_wp2_with fail
    refine HL.out.mono ?_; rintro e w6 ⟨rfl, g6⟩
    have HB6 := Lib.hid (HB1.out.trans ((g6.out.nothing (fun _ _ q => q.elim)).mono HB1.out.size))
    clear g6 HL
    go_wp2_with fail
    go_ret
    exact ⟨rfl, HB6.out⟩
set_option maxHeartbeats 4000000 in
theorem rmay_dev2 (q : (eRB r S).P R W w) (x : Nat) (z : Int) (hx : x < W64) (hh : M.hasV x z = false) (hn : S.D.U.sent.length < 70368744177664) : Calls Tryz.prog 16 #[.pointer (some ⟨r, 0, none⟩), .int .i64 2, .int .u64 x, .int .i64 z] w (RetB (okD x z) w) := by
  have hp := Lib.hid (rplain_q q x z hx)
  rw [hh] at hp
  obtain ⟨m, c, p, u, sv, L, came, hc, g, h5, h6⟩ := rb_open q
  have HG := Lib.hid g
  have HN := Lib.hid hc.lt
  have HS := Lib.hid hn
  have HX := Lib.hid hx
  clear g h5 h6 q hc hx hh hn
  go_enter Tryz.func16, Tryz.ntmps16
  go_wp2_with fail
  refine hp.out.mono ?_; rintro e w1 ⟨rfl, hb1⟩
  have HG1 := Lib.hid (HG.out.below hb1)
  have HB1 := Lib.hid hb1
  clear hb1 hp HG
  obtain ⟨h4, c0, c1, c2, c3, c4, c5, c6, c7, fz⟩ := rcells HG1.out
  clear c0 c4 c5 c6 c7 fz
  go_wp2_with fail
  go_region_held3 (fun w' => w'.cell? ⟨r, 1, none⟩ = some (.pointer (some ⟨c, 0, none⟩)) ∧ w'.cell? ⟨r, 2, none⟩ = some (.pointer (some ⟨p, 0, none⟩)) ∧ w'.cell? ⟨r, 3, none⟩ = some (.pointer (some ⟨u, 0, none⟩))) (exact cells123 h4 c1 c2 c3 (by repeat (first | (with_reducible first | exact Below.refl _ _ | assumption | exact Nat.le_refl _ | refine Below.drew ?_ | refine Below.alloc ?_ ?_ _ | refine Below.setCell ?_ ?_ _ | refine le_alloc ?_ | refine le_set ?_ | refine le_drew ?_ | refine below_step (by assumption) ?_ ?_ | refine le_below (by assumption) ?_) | (dsimp only; omega)))) (first
    | (go_at_call 50; refine (copyK_n ((grp_emp w1).below (by repeat (first | (with_reducible first | exact Below.refl _ _ | assumption | exact Nat.le_refl _ | refine Below.drew ?_ | refine Below.alloc ?_ ?_ _ | refine Below.setCell ?_ ?_ _ | refine le_alloc ?_ | refine le_set ?_ | refine le_drew ?_ | refine below_step (by assumption) ?_ ?_ | refine le_below (by assumption) ?_) | (dsimp only; omega)))) ((HG1.out.below (by repeat (first | (with_reducible first | exact Below.refl _ _ | assumption | exact Nat.le_refl _ | refine Below.drew ?_ | refine Below.alloc ?_ ?_ _ | refine Below.setCell ?_ ?_ _ | refine le_alloc ?_ | refine le_set ?_ | refine le_drew ?_ | refine below_step (by assumption) ?_ ?_ | refine le_below (by assumption) ?_) | (dsimp only; omega)))).get 1 rfl).choose_spec.choose_spec).mono ?_; rintro e w2 ⟨c', rfl, g2, hb2⟩; have G2 := Lib.hid g2; clear g2)
    | (go_at_call 51; refine (copyZ_n (G2.out.below (by repeat (first | (with_reducible first | exact Below.refl _ _ | assumption | exact Nat.le_refl _ | refine Below.drew ?_ | refine Below.alloc ?_ ?_ _ | refine Below.setCell ?_ ?_ _ | refine le_alloc ?_ | refine le_set ?_ | refine le_drew ?_ | refine below_step (by assumption) ?_ ?_ | refine le_below (by assumption) ?_) | (dsimp only; omega)))) ((HG1.out.below (by repeat (first | (with_reducible first | exact Below.refl _ _ | assumption | exact Nat.le_refl _ | refine Below.drew ?_ | refine Below.alloc ?_ ?_ _ | refine Below.setCell ?_ ?_ _ | refine le_alloc ?_ | refine le_set ?_ | refine le_drew ?_ | refine below_step (by assumption) ?_ ?_ | refine le_below (by assumption) ?_) | (dsimp only; omega)))).get 2 rfl).choose_spec.choose_spec).mono ?_; rintro e w3 ⟨p', rfl, g3, hb3⟩; have G3 := Lib.hid g3; clear g3)
    | (go_at_call 52; refine (copyV_n (G3.out.below (by repeat (first | (with_reducible first | exact Below.refl _ _ | assumption | exact Nat.le_refl _ | refine Below.drew ?_ | refine Below.alloc ?_ ?_ _ | refine Below.setCell ?_ ?_ _ | refine le_alloc ?_ | refine le_set ?_ | refine le_drew ?_ | refine below_step (by assumption) ?_ ?_ | refine le_below (by assumption) ?_) | (dsimp only; omega)))) ((HG1.out.below (by repeat (first | (with_reducible first | exact Below.refl _ _ | assumption | exact Nat.le_refl _ | refine Below.drew ?_ | refine Below.alloc ?_ ?_ _ | refine Below.setCell ?_ ?_ _ | refine le_alloc ?_ | refine le_set ?_ | refine le_drew ?_ | refine below_step (by assumption) ?_ ?_ | refine le_below (by assumption) ?_) | (dsimp only; omega)))).get 3 rfl).choose_spec.choose_spec HN.out HS.out).mono ?_; rintro e w4 ⟨u', rfl, g4, hb4⟩; have G4 := Lib.hid g4; clear g4))
  all_goals
    have G5 : Hid (Grp (fun _ _ => False) (fun _ _ => False) w1 (dz eEmp c' p' u' came S.D []) (w4.alloc (Obj.cells #[.pointer none, .pointer (some ⟨c', 0, none⟩), .pointer (some ⟨p', 0, none⟩), .pointer (some ⟨u', 0, none⟩), .int .i64 0, .slice none 0 0, .int .i64 0, .bool false] 75))) := Lib.hid (G4.out.below (below_one w4 _))
    have x1 : (w4.alloc (Obj.cells #[.pointer none, .pointer (some ⟨c', 0, none⟩), .pointer (some ⟨p', 0, none⟩), .pointer (some ⟨u', 0, none⟩), .int .i64 0, .slice none 0 0, .int .i64 0, .bool false] 75)).cell? ⟨w4.heap.size, 1, none⟩ = some (.pointer (some ⟨c', 0, none⟩)) := by rw [World.cell?_alloc_at _ _ _ _ rfl]; rfl
    have x2 : (w4.alloc (Obj.cells #[.pointer none, .pointer (some ⟨c', 0, none⟩), .pointer (some ⟨p', 0, none⟩), .pointer (some ⟨u', 0, none⟩), .int .i64 0, .slice none 0 0, .int .i64 0, .bool false] 75)).cell? ⟨w4.heap.size, 2, none⟩ = some (.pointer (some ⟨p', 0, none⟩)) := by rw [World.cell?_alloc_at _ _ _ _ rfl]; rfl
    have x3 : (w4.alloc (Obj.cells #[.pointer none, .pointer (some ⟨c', 0, none⟩), .pointer (some ⟨p', 0, none⟩), .pointer (some ⟨u', 0, none⟩), .int .i64 0, .slice none 0 0, .int .i64 0, .bool false] 75)).cell? ⟨w4.heap.size, 3, none⟩ = some (.pointer (some ⟨u', 0, none⟩)) := by rw [World.cell?_alloc_at _ _ _ _ rfl]; rfl
    generalize w4.alloc (Obj.cells #[.pointer none, .pointer (some ⟨c', 0, none⟩), .pointer (some ⟨p', 0, none⟩), .pointer (some ⟨u', 0, none⟩), .int .i64 0, .slice none 0 0, .int .i64 0, .bool false] 75) = w5 at *
    generalize w4.heap.size = ob at x1 x2 x3 ⊢
    have HL := Lib.hid (look_c eEmp ob c' p' u' came S.D [] _ _ w1 w5 G5 HN x1 x2 x3 x z HX.out)
    clear x1 x2 x3 c1 c2 c3 h4 G5
    go_wp2_with fail
    refine HL.out.mono ?_; rintro e w6 ⟨rfl, g6⟩
    have HB6 := Lib.hid (HB1.out.trans ((g6.out.nothing (fun _ _ q => q.elim)).mono HB1.out.size))
    clear g6 HL
    go_wp2_with fail
    go_ret
    exact ⟨rfl, HB6.out⟩
theorem rmay_q (q : (eRB r S).P R W w) (k : Int) (x : Nat) (z : Int) (hx : x < W64) (hn : S.D.U.sent.length < 70368744177664) : Calls Tryz.prog 16 #[.pointer (some ⟨r, 0, none⟩), .int .i64 k, .int .u64 x, .int .i64 z] w (RetB (mayB k x z) w) := by
  by_cases h0 : k = 0 ∨ k = 3
  · have e2 : mayB k x z = M.hasV x z := by unfold mayB; rw [if_pos h0]
    rw [e2]
    cases hh : M.hasV x z
    · exact rmay_not q k h0 x z hx hh
    · exact rmay_plain q k (by omega) x z hx hh
  · by_cases h1 : k = 1 ∨ k = 2
    · cases hh : M.hasV x z
      · have e2 : mayB k x z = okD x z := by unfold mayB; rw [if_neg h0, if_pos h1, hh]; rfl
        rw [e2]
        rcases h1 with rfl | rfl
        · exact rmay_dev1 q x z hx hh hn
        · exact rmay_dev2 q x z hx hh hn
      · have e2 : mayB k x z = true := by unfold mayB; rw [if_neg h0, if_pos h1, hh]; rfl
        rw [e2]
        exact rmay_plain q k (by omega) x z hx hh
    · have e2 : mayB k x z = false := by unfold mayB; rw [if_neg h0, if_neg h1]
      rw [e2]
      exact rmay_out q k h0 h1 x z
end
end Go.Proofs.YtoicpikkcefheaaGreat
namespace Go.Proofs.YtoicpikkcefheaaGreat
open Go.ChangeShapes Go.WideShapes Go.ChangeAt Go.RowKit Go.Sort
open M (Fp Dj Cw Up Th Grp GrpAt GrpC Cpd jn exT)
set_option linter.unusedVariables false
set_option linter.unusedSimpArgs false
set_option maxRecDepth 20000
section
variable {n0 : Nat} {R0 W0 R W : Fp} {w0 w : World} {l : List Th}
theorem copyK_g (h : GrpC n0 R0 W0 w0 l w) {b s a t : Nat} (q : (eK b s a t).P R W w) : Calls Tryz.prog 50 #[.pointer (some ⟨b, 0, none⟩)] w (fun e w' => ∃ c', e = .returned (.pointer (some ⟨c', 0, none⟩)) ∧ GrpC n0 R0 W0 w0 (l ++ [eK c' s a t]) w' ∧ Below w.heap.size w w') := by
  refine (K.copyr_c w b s a t q.2.1).mono ?_
  rintro e w' ⟨c', rfl, h1, h2, hb⟩
  exact ⟨c', rfl, h.push hb (eC_new h2 q.2.2) (fun k j hk => by rw [hk]; exact h1), hb⟩
theorem copyZ_g (h : GrpC n0 R0 W0 w0 l w) {b : Nat} {S : P.St} (q : (eZ b S).P R W w) : Calls Tryz.prog 51 #[.pointer (some ⟨b, 0, none⟩)] w (fun e w' => ∃ c', e = .returned (.pointer (some ⟨c', 0, none⟩)) ∧ GrpC n0 R0 W0 w0 (l ++ [eZ c' S]) w' ∧ Below w.heap.size w w') := by
  obtain ⟨h1, h2, e, p, t, ce, cp, ct, u, v, s, h3, h4⟩ := q
  refine (P.copy_r b e p t ce cp ct u v s S w (Lib.hid h4)).mono ?_
  rintro e0 w' ⟨b', e', p', t', ce', cp', ct', rfl, ⟨u', v', s', hr⟩, hn, hb⟩
  exact ⟨b', rfl, h.push hb (eZ_new hr) hn, hb⟩
theorem copyV_g (h : GrpC n0 R0 W0 w0 l w) {b N : Nat} {U : T.Ur} (q : (eV b N U).P R W w) (hN : N < 70368744177664) (hn : U.sent.length < 70368744177664) : Calls Tryz.prog 52 #[.pointer (some ⟨b, 0, none⟩)] w (fun e w' => ∃ c', e = .returned (.pointer (some ⟨c', 0, none⟩)) ∧ GrpC n0 R0 W0 w0 (l ++ [eV c' N U]) w' ∧ Below w.heap.size w w') := by
  refine (T.copyr_c W N b U w (Lib.hid q.2) (Lib.hid hN) (Lib.hid hn)).mono ?_
  rintro e w' ⟨b', R', rfl, h1, h2, hb⟩
  exact ⟨b', rfl, h.push hb (R1 := R') (W1 := R') ⟨rfl, h1⟩ h2, hb⟩
theorem copyM_g (h : GrpC n0 R0 W0 w0 l w) {b : Nat} {F : Nat → Nat} (q : (M.eR b F).P R W w) : Calls Tryz.prog 49 #[.pointer (some ⟨b, 0, none⟩)] w (fun e w' => ∃ c', e = .returned (.pointer (some ⟨c', 0, none⟩)) ∧ GrpC n0 R0 W0 w0 (l ++ [M.eR c' F]) w' ∧ Below w.heap.size w w') := by
  refine (M.copyr_c W b F w (Lib.hid q.2)).mono ?_
  rintro e w' ⟨b', R', rfl, h1, h2, hb⟩
  exact ⟨b', rfl, h.push hb (R1 := R') (W1 := R') ⟨rfl, h1⟩ h2, hb⟩
end
/-- The cells of a new bus of the document's. -/
theorem newBR {w : World} {m c p u came : Nat} {one : Bool} {v : Value} {cyc : Int} {t : TypeId} : (eBR w.heap.size m c p u v cyc came one).P (fun k _ => k = w.heap.size) (fun k _ => k = w.heap.size) (w.alloc (Obj.cells #[.pointer (some ⟨m, 0, none⟩), .pointer (some ⟨c, 0, none⟩), .pointer (some ⟨p, 0, none⟩), .pointer (some ⟨u, 0, none⟩), .int .i64 cyc, v, .int .i64 (came : Nat), .bool one] t)) := by
  refine ⟨fun j => rfl, fun k j q => q, fun k j q => by rw [q, sz_alloc]; omega, by rw [sz_alloc]; omega, ?_, ?_, ?_, ?_, ?_, ?_, ?_, ?_, fun j => by rw [World.frozen?_alloc_at _ _ _ _ rfl]⟩ <;> (rw [World.cell?_alloc_at _ _ _ _ rfl]; rfl)
def ixR (i : Nat) : Nat := if i = 6 then 10 else if i = 10 then 6 else i
theorem ixR_ne {i j : Nat} (h : i ≠ j) : ixR i ≠ ixR j := by
  unfold ixR
  by_cases h1 : i = 6
  · rw [if_pos h1]
    by_cases h2 : j = 6
    · omega
    · rw [if_neg h2]; split <;> omega
  · rw [if_neg h1]
    by_cases h2 : j = 6
    · rw [if_pos h2]; split <;> omega
    · rw [if_neg h2]; split <;> split <;> omega
theorem pick_r {a b c d e f A B C D E F : Th} (i : Nat) (X : Th) (h : ([a, b, c, d, e, f] ++ [E, B, C, D, A, F])[i]? = some X) : ([a, b, c, d, e, f] ++ [A] ++ [B] ++ [C] ++ [D] ++ [E] ++ [F])[ixR i]? = some X := by
  match i, h with
  | 0, h => exact h
  | 1, h => exact h
  | 2, h => exact h
  | 3, h => exact h
  | 4, h => exact h
  | 5, h => exact h
  | 6, h => exact h
  | 7, h => exact h
  | 8, h => exact h
  | 9, h => exact h
  | 10, h => exact h
  | 11, h => exact h
  | n + 12, h => simp at h
theorem cpd_rb {R W : Fp} {w w' : World} {r m c p u r' m' c' p' u' came : Nat} {v : Value} {L : List Ev} {S : Bs} (hc : RCo L came S) (h : Cpd (jn (rl r m c p u v L came S)) (jn (rl r' m' c' p' u' v L came S)) R W w w') : Cpd (eRB r S) (eRB r' S) R W w w' := by
  obtain ⟨R', W', V, h1, h2, h3, h4, h5, h6, h7⟩ := h
  exact ⟨R', W', V, ⟨⟨(m, c, p, u, v, L, came), hc⟩, h1⟩, h2, ⟨⟨(m', c', p', u', v, L, came), hc⟩, h3⟩, h4, h5, h6, h7⟩
theorem cells8r {w w' : World} {b : Nat} {v0 v1 v2 v3 v4 v5 v6 v7 : Value} (hb : b < w.heap.size) (c0 : w.cell? ⟨b, 0, none⟩ = some v0) (c1 : w.cell? ⟨b, 1, none⟩ = some v1) (c2 : w.cell? ⟨b, 2, none⟩ = some v2) (c3 : w.cell? ⟨b, 3, none⟩ = some v3) (c4 : w.cell? ⟨b, 4, none⟩ = some v4) (c5 : w.cell? ⟨b, 5, none⟩ = some v5) (c6 : w.cell? ⟨b, 6, none⟩ = some v6) (c7 : w.cell? ⟨b, 7, none⟩ = some v7) (h : Below w.heap.size w w') :
    w'.cell? ⟨b, 0, none⟩ = some v0 ∧ w'.cell? ⟨b, 1, none⟩ = some v1 ∧ w'.cell? ⟨b, 2, none⟩ = some v2 ∧ w'.cell? ⟨b, 3, none⟩ = some v3 ∧ w'.cell? ⟨b, 4, none⟩ = some v4 ∧ w'.cell? ⟨b, 5, none⟩ = some v5 ∧ w'.cell? ⟨b, 6, none⟩ = some v6 ∧ w'.cell? ⟨b, 7, none⟩ = some v7 :=
  ⟨(h.cell (p := ⟨b, 0, none⟩) hb).trans c0, (h.cell (p := ⟨b, 1, none⟩) hb).trans c1, (h.cell (p := ⟨b, 2, none⟩) hb).trans c2, (h.cell (p := ⟨b, 3, none⟩) hb).trans c3, (h.cell (p := ⟨b, 4, none⟩) hb).trans c4, (h.cell (p := ⟨b, 5, none⟩) hb).trans c5, (h.cell (p := ⟨b, 6, none⟩) hb).trans c6, (h.cell (p := ⟨b, 7, none⟩) hb).trans c7⟩
set_option maxHeartbeats 8000000 in
theorem rcopy_b {R W : Fp} {w : World} {r : Nat} {S : Bs} (q : (eRB r S).P R W w) (hn : S.D.U.sent.length < 70368744177664) : Calls Tryz.prog 12 #[.pointer (some ⟨r, 0, none⟩)] w (fun e w' => ∃ r', e = .returned (.pointer (some ⟨r', 0, none⟩)) ∧ Cpd (eRB r S) (eRB r' S) R W w w') := by
  obtain ⟨⟨⟨m, c, p, u, v, L, came⟩, hc⟩, q⟩ := q
  dsimp only at q hc
  have hG := Lib.hid (M.grpC_start q)
  change Hid (GrpC 6 R W w (rl r m c p u v L came S) w) at hG
  obtain ⟨h4, c0, c1, c2, c3, c4, c5, c6, c7, fz⟩ := rcells hG.out.grp
  obtain ⟨ea, en, ec, eg, eo, rfl, -⟩ := rget_ev hG.out.grp
  have H5 := Lib.hid q.2.1
  have H6 := Lib.hid q.2.2
  have HC := Lib.hid hc
  have HN := Lib.hid hc.lt
  have HS := Lib.hid hn
  clear q hc hn fz
  go_enter Tryz.func12, Tryz.ntmps12
  go_wp2_with fail
  go_region_held3 (fun w' => w'.cell? ⟨r, 0, none⟩ = some (.pointer (some ⟨m, 0, none⟩)) ∧ w'.cell? ⟨r, 1, none⟩ = some (.pointer (some ⟨c, 0, none⟩)) ∧ w'.cell? ⟨r, 2, none⟩ = some (.pointer (some ⟨p, 0, none⟩)) ∧ w'.cell? ⟨r, 3, none⟩ = some (.pointer (some ⟨u, 0, none⟩)) ∧ w'.cell? ⟨r, 4, none⟩ = some (.int .i64 S.cyc) ∧ w'.cell? ⟨r, 5, none⟩ = some (.slice ea en ec) ∧ w'.cell? ⟨r, 6, none⟩ = some (.int .i64 (came : Nat)) ∧ w'.cell? ⟨r, 7, none⟩ = some (.bool S.D.one)) (exact cells8r h4 c0 c1 c2 c3 c4 c5 c6 c7 (by repeat (first | (with_reducible first | exact Below.refl _ _ | assumption | exact Nat.le_refl _ | refine Below.drew ?_ | refine Below.alloc ?_ ?_ _ | refine Below.setCell ?_ ?_ _ | refine le_alloc ?_ | refine le_set ?_ | refine le_drew ?_ | refine below_step (by assumption) ?_ ?_ | refine le_below (by assumption) ?_) | (dsimp only; omega)))) (first
    | (go_at_call 49; refine (copyM_g (hG.out.below (by repeat (first | (with_reducible first | exact Below.refl _ _ | assumption | exact Nat.le_refl _ | refine Below.drew ?_ | refine Below.alloc ?_ ?_ _ | refine Below.setCell ?_ ?_ _ | refine le_alloc ?_ | refine le_set ?_ | refine le_drew ?_ | refine below_step (by assumption) ?_ ?_ | refine le_below (by assumption) ?_) | (dsimp only; omega)))) ((hG.out.grp.below (by repeat (first | (with_reducible first | exact Below.refl _ _ | assumption | exact Nat.le_refl _ | refine Below.drew ?_ | refine Below.alloc ?_ ?_ _ | refine Below.setCell ?_ ?_ _ | refine le_alloc ?_ | refine le_set ?_ | refine le_drew ?_ | refine below_step (by assumption) ?_ ?_ | refine le_below (by assumption) ?_) | (dsimp only; omega)))).get 4 rfl).choose_spec.choose_spec).mono ?_; rintro e w1 ⟨m', rfl, g1, hb1⟩; have G1 := Lib.hid g1; clear g1)
    | (go_at_call 50; refine (copyK_g (G1.out.below (by repeat (first | (with_reducible first | exact Below.refl _ _ | assumption | exact Nat.le_refl _ | refine Below.drew ?_ | refine Below.alloc ?_ ?_ _ | refine Below.setCell ?_ ?_ _ | refine le_alloc ?_ | refine le_set ?_ | refine le_drew ?_ | refine below_step (by assumption) ?_ ?_ | refine le_below (by assumption) ?_) | (dsimp only; omega)))) ((hG.out.grp.below (by repeat (first | (with_reducible first | exact Below.refl _ _ | assumption | exact Nat.le_refl _ | refine Below.drew ?_ | refine Below.alloc ?_ ?_ _ | refine Below.setCell ?_ ?_ _ | refine le_alloc ?_ | refine le_set ?_ | refine le_drew ?_ | refine below_step (by assumption) ?_ ?_ | refine le_below (by assumption) ?_) | (dsimp only; omega)))).get 1 rfl).choose_spec.choose_spec).mono ?_; rintro e w2 ⟨c', rfl, g2, hb2⟩; have G2 := Lib.hid g2; clear g2)
    | (go_at_call 51; refine (copyZ_g (G2.out.below (by repeat (first | (with_reducible first | exact Below.refl _ _ | assumption | exact Nat.le_refl _ | refine Below.drew ?_ | refine Below.alloc ?_ ?_ _ | refine Below.setCell ?_ ?_ _ | refine le_alloc ?_ | refine le_set ?_ | refine le_drew ?_ | refine below_step (by assumption) ?_ ?_ | refine le_below (by assumption) ?_) | (dsimp only; omega)))) ((hG.out.grp.below (by repeat (first | (with_reducible first | exact Below.refl _ _ | assumption | exact Nat.le_refl _ | refine Below.drew ?_ | refine Below.alloc ?_ ?_ _ | refine Below.setCell ?_ ?_ _ | refine le_alloc ?_ | refine le_set ?_ | refine le_drew ?_ | refine below_step (by assumption) ?_ ?_ | refine le_below (by assumption) ?_) | (dsimp only; omega)))).get 2 rfl).choose_spec.choose_spec).mono ?_; rintro e w3 ⟨p', rfl, g3, hb3⟩; have G3 := Lib.hid g3; clear g3)
    | (go_at_call 52; refine (copyV_g (G3.out.below (by repeat (first | (with_reducible first | exact Below.refl _ _ | assumption | exact Nat.le_refl _ | refine Below.drew ?_ | refine Below.alloc ?_ ?_ _ | refine Below.setCell ?_ ?_ _ | refine le_alloc ?_ | refine le_set ?_ | refine le_drew ?_ | refine below_step (by assumption) ?_ ?_ | refine le_below (by assumption) ?_) | (dsimp only; omega)))) ((hG.out.grp.below (by repeat (first | (with_reducible first | exact Below.refl _ _ | assumption | exact Nat.le_refl _ | refine Below.drew ?_ | refine Below.alloc ?_ ?_ _ | refine Below.setCell ?_ ?_ _ | refine le_alloc ?_ | refine le_set ?_ | refine le_drew ?_ | refine below_step (by assumption) ?_ ?_ | refine le_below (by assumption) ?_) | (dsimp only; omega)))).get 3 rfl).choose_spec.choose_spec HN.out HS.out).mono ?_; rintro e w4 ⟨u', rfl, g4, hb4⟩; have G4 := Lib.hid g4; clear g4))
  all_goals
    go_wp2_with fail
    go_ret
    have g5 := G4.out.push (below_one w4 (Obj.cells #[.pointer (some ⟨m', 0, none⟩), .pointer (some ⟨c', 0, none⟩), .pointer (some ⟨p', 0, none⟩), .pointer (some ⟨u', 0, none⟩), .int .i64 S.cyc, .slice ea en ec, .int .i64 (came : Nat), .bool S.D.one] 75)) (newBR (m := m') (c := c') (p := p') (u := u') (one := S.D.one) (v := .slice ea en ec) (cyc := S.cyc) (came := came)) (fun k j hk => Nat.le_of_eq hk.symm)
    have g6 := share_ev g5 5 rfl (by decide)
    have g7 := g6.pick (rl r m c p u (.slice ea en ec) L came S ++ rl w4.heap.size m' c' p' u' (.slice ea en ec) L came S) ixR (fun i E h => pick_r i E h) (fun i j hi hj hne => ixR_ne hne) (by show 6 ≤ 12; decide) (fun i hi => by unfold ixR; rw [if_neg (by omega), if_neg (by omega)]; exact hi) (fun i hi => by unfold ixR; split; omega; split <;> omega)
    exact ⟨_, rfl, cpd_rb HC.out (M.GrpC.split (l := rl r m c p u (.slice ea en ec) L came S) (l' := rl w4.heap.size m' c' p' u' (.slice ea en ec) L came S) g7 H5.out H6.out)⟩
end Go.Proofs.YtoicpikkcefheaaGreat
