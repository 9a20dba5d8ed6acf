/- The document's bus as a thing; Plain, Read, Write, Time, Cycle, Sent, Pending. -/
import Derived.Test.YtoicpikkcefheaaGreatSB
namespace Go.Proofs.YtoicpikkcefheaaGreat
open Go.ChangeShapes Go.WideShapes Go.ChangeAt Go.RowKit Go.Sort
open M (Fp Dj Cw Up Th Grp GrpAt jn exT)
set_option linter.unusedVariables false
set_option linter.unusedSimpArgs false
set_option maxRecDepth 20000
/-- What holds of it besides: the inputs, how many came, and the line of the first source. -/
structure RCo (L : List Ev) (came : Nat) (S : Bs) : Prop where
  ahead : L.drop came = S.ahead
  le : came ≤ L.length
  few : L.length ≤ 1024
  up : S.D.S.up 1 = (S.D.one || T.upF S.D.U)
  ok : ∀ e ∈ L, OkE e
abbrev rl (r m c p u : Nat) (v : Value) (L : List Ev) (came : Nat) (S : Bs) : List Th := dz (eBR r m c p u v S.cyc came S.D.one) c p u came S.D [M.eR m S.F, eEv v L]
/-- The document's bus. -/
def eRB (r : Nat) (S : Bs) : Th := exT fun q : { q : Nat × Nat × Nat × Nat × Value × List Ev × Nat // RCo q.2.2.2.2.2.1 q.2.2.2.2.2.2 S } => jn (rl r q.1.1 q.1.2.1 q.1.2.2.1 q.1.2.2.2.1 q.1.2.2.2.2.1 q.1.2.2.2.2.2.1 q.1.2.2.2.2.2.2 S)
theorem rb_open {R W : Fp} {w : World} {r : Nat} {S : Bs} (q : (eRB r S).P R W w) : ∃ m c p u v L came, RCo L came S ∧ Grp R W w (rl r m c p u v L came S) w ∧ (∀ k j, W k j → R k j) ∧ ∀ k j, R k j → k < w.heap.size := by
  obtain ⟨⟨⟨m, c, p, u, v, L, came⟩, hc⟩, q⟩ := q
  exact ⟨m, c, p, u, v, L, came, hc, M.jn_open q, q.2.1, q.2.2⟩
theorem rb_close {R W : Fp} {w w' : World} {r m c p u : Nat} {v : Value} {L : List Ev} {came : Nat} {S : Bs} (h : Grp R W w (rl r m c p u v L came S) w') (hc : RCo L came S) (h5 : ∀ k j, W k j → R k j) (h6 : ∀ k j, R k j → k < w.heap.size) : (eRB r S).P (Up R w w') (Up W w w') w' ∧ Cw W w w' := by
  obtain ⟨c1, c2⟩ := M.jn_close h h5 h6
  exact ⟨⟨⟨(m, c, p, u, v, L, came), hc⟩, c1⟩, c2⟩
theorem fol_up (D : Dv) : D.fol.S.up 1 = (D.fol.one || T.upF D.fol.U) := by
  show (P.comeF (D.S.setUp 1 (D.one || T.upF D.U)) 1).up 1 = (D.one || T.upF D.U)
  unfold P.comeF
  cases ((D.S.setUp 1 (D.one || T.upF D.U)).up 1 && (D.S.setUp 1 (D.one || T.upF D.U)).st 1 == 0)
  · exact P.set_same2 D.S.up 1 (D.one || T.upF D.U)
  · exact P.set_same2 D.S.up 1 (D.one || T.upF D.U)
theorem fol_same (D : Dv) (h : D.S.up 1 = (D.one || T.upF D.U)) (hi : P.InvS D.S) : D.fol = D := by
  have e1 : D.S.setUp 1 (D.one || T.upF D.U) = D.S := by
    rw [← h]
    show P.St.mk (P.set D.S.up 1 (D.S.up 1)) _ _ _ _ = _
    rw [P.set_self]
  show Dv.mk _ _ _ (P.comeF (D.S.setUp 1 (D.one || T.upF D.U)) 1) _ _ = _
  rw [e1]
  have : P.comeF D.S 1 = D.S := by
    unfold P.comeF
    cases hu : D.S.up 1 with
    | false => rfl
    | true =>
      have := hi.1 1 hu
      rw [show (D.S.st 1 == 0) = false by simpa using this]; rfl
  rw [this]
theorem RCo.fol {L : List Ev} {came : Nat} {S : Bs} (h : RCo L came S) (D : Dv) : RCo L came { S with D := D.fol } := ⟨h.ahead, h.le, h.few, fol_up D, h.ok⟩
theorem RCo.lt {L : List Ev} {came : Nat} {S : Bs} (h : RCo L came S) : came < 70368744177664 := by have := h.le; have := h.few; omega
/-- A call that only reads. -/
theorem rupon_read {R W : Fp} {w : World} {r : Nat} {S : Bs} {f : FuncId} {args : Array Value} {v : Value} (q : (eRB r S).P R W w) (h : Calls Tryz.prog f args w (fun e w' => e = .returned v ∧ Below w.heap.size w w')) : Calls Tryz.prog f args w (Upon v (eRB r S) R W w) := by
  obtain ⟨m, c, p, u, sv, L, came, hc, g, h5, h6⟩ := rb_open q
  refine h.mono ?_
  rintro e w' ⟨rfl, hb⟩
  exact ⟨rfl, rb_close (g.below hb) hc h5 h6⟩
section
variable {R W : Fp} {w : World} {r : Nat} {S : Bs}
theorem rplain_q (q : (eRB r S).P R W w) (x : Nat) (z : Int) (hx : x < W64) : Calls Tryz.prog 18 #[.pointer (some ⟨r, 0, none⟩), .int .u64 x, .int .i64 z] w (RetB (M.hasV x z) w) := by
  obtain ⟨m, c, p, u, sv, L, came, hc, g, h5, h6⟩ := rb_open q
  have c0 := (rcells g).c0
  have hh := Lib.hid (M.hasr_c (.pointer (some ⟨m, 0, none⟩)) x z (Lib.hid hx) w)
  clear g h5 h6 q hx hc
  generalize M.hasV x z = bb at *
  go_enter Tryz.func18, Tryz.ntmps18
  go_wp2_with fail
  refine hh.out.mono ?_; rintro e w1 ⟨rfl, hb1⟩
  go_wp2_with fail
  go_ret
  exact ⟨rfl, hb1⟩
theorem rcycle_q (q : (eRB r S).P R W w) : Calls Tryz.prog 63 #[.pointer (some ⟨r, 0, none⟩)] w (fun e w' => e = .returned (.int .i64 S.cyc) ∧ w' = w) := by
  obtain ⟨m, c, p, u, sv, L, came, hc, g, h5, h6⟩ := rb_open q
  have c4 := (rcells g).c4
  clear g h5 h6 q hc
  go_enter Tryz.func63, Tryz.ntmps63
  go_wp2_with fail
  go_ret
  exact ⟨rfl, rfl⟩
theorem rtime_q (q : (eRB r S).P R W w) : Calls Tryz.prog 62 #[.pointer (some ⟨r, 0, none⟩)] w (fun e w' => e = .returned (.int .u64 (S.D.t : Nat)) ∧ w' = w) := by
  obtain ⟨m, c, p, u, sv, L, came, hc, g, h5, h6⟩ := rb_open q
  have c1 := (rcells g).c1
  obtain ⟨_, _, qk⟩ := g.get 1 rfl
  obtain ⟨k0, k1, k2, k3, k4⟩ := qk.2.1
  clear g h5 h6 q hc qk
  go_enter Tryz.func62, Tryz.ntmps62
  go_wp2_with fail
  go_ret
  exact ⟨rfl, rfl⟩
theorem rsent_q (q : (eRB r S).P R W w) (hn : S.D.U.sent.length < 70368744177664) : Calls Tryz.prog 64 #[.pointer (some ⟨r, 0, none⟩)] w (T.RetSl S.D.U.sent w) := by
  obtain ⟨m, c, p, u, sv, L, came, hc, g, h5, h6⟩ := rb_open q
  have c3 := (rcells g).c3
  obtain ⟨_, _, qu⟩ := g.get 3 rfl
  have hs := Lib.hid (sentV qu hn)
  clear g h5 h6 q hc qu hn
  go_enter Tryz.func64, Tryz.ntmps64
  go_wp2_with fail
  refine hs.out.mono ?_; rintro e w1 ⟨a, n, c', g', rfl, r1, r2, r3⟩
  have RR := Lib.hid r1; clear r1
  go_wp2_with fail
  go_ret
  exact ⟨a, n, c', g', rfl, RR.out, r2, r3⟩
theorem rpend_q (q : (eRB r S).P R W w) : Calls Tryz.prog 61 #[.pointer (some ⟨r, 0, none⟩)] w (fun e w' => e = .returned (.int .u64 (S.pend : Nat)) ∧ Below w.heap.size w w') := by
  obtain ⟨m, c, p, u, sv, L, came, hc, g, h5, h6⟩ := rb_open q
  have c1 := (rcells g).c1
  have c2 := (rcells g).c2
  have lt := (rcells g).lt
  obtain ⟨R1, W1, q1⟩ := g.get 1 rfl
  obtain ⟨R2, W2, q2⟩ := g.get 2 rfl
  have HK := Lib.hid (K.pendr_c w c S.D.s S.D.a S.D.t q1.2.1 q1.2.2.1)
  have HZ := Lib.hid (fun w1 (hb : Below w.heap.size w w1) => pendZ ((eZ p S.D.S).kept q2 (Cw.of_below (fun _ _ => False) hb) (fun _ _ h => h.elim)))
  have h1 := pen_lt S.D.s S.D.a S.D.t q1.2.2.1
  have h2 := P.pend_lt S.D.S
  have HV : Hid (bits .or .u64 ((K.penV S.D.s S.D.a S.D.t : Nat) : Int) ((P.pendF S.D.S : Nat) : Int) = ((S.pend : Nat) : Int)) := by
    show _ = _
    rw [u64_or_nat _ _ (by omega) (by omega)]; rfl
  clear g h5 h6 q hc q1 q2 h1 h2
  generalize K.penV S.D.s S.D.a S.D.t = pa at *
  generalize P.pendF S.D.S = pb at *
  go_enter Tryz.func61, Tryz.ntmps61
  go_wp2_with fail
  refine HK.out.mono ?_; rintro e w1 ⟨rfl, hb1⟩
  have d2 := (hb1.cell (p := ⟨r, 2, none⟩) lt).trans c2
  have HZ1 := Lib.hid (HZ.out w1 hb1)
  have HB := Lib.hid hb1
  clear hb1 HZ HK
  go_wp2_with fail
  refine HZ1.out.mono ?_; rintro e w2 ⟨rfl, hb2⟩
  have HB2 := Lib.hid (HB.out.trans (hb2.mono HB.out.size))
  clear hb2
  go_wp2_with fail
  go_ret
  exact ⟨by rw [← HV.out]; rfl, HB2.out⟩
theorem rread_out (q : (eRB r S).P R W w) (k : Int) (hk : ¬ (k = 0 ∨ k = 3)) (hk2 : ¬ (k = 1 ∨ k = 2)) (x : Nat) (z : Int) : Calls Tryz.prog 10 #[.pointer (some ⟨r, 0, none⟩), .int .i64 k, .int .u64 x, .int .i64 z] w (fun e w' => e = .returned (.tuple #[.int .u64 0, .bool false]) ∧ Below w.heap.size w w') := by
  by_cases hl : k < 0
  · clear hk hk2
    go_enter Tryz.func10, Tryz.ntmps10
    go_wp2_with fail
    go_ret2
    exact ⟨rfl, (by repeat (first | (with_reducible first | exact Below.refl _ _ | assumption | exact Nat.le_refl _ | refine Below.drew ?_ | refine Below.alloc ?_ ?_ _ | refine below_drewN ?_ _ | refine Below.setCell ?_ ?_ _ | refine le_alloc ?_ | refine le_set ?_ | refine le_drew ?_ | refine le_drewN ?_ | refine below_step (by assumption) ?_ ?_ | refine le_below (by assumption) ?_) | (dsimp only; omega)))⟩
  · have h3 : (3 : Int) < k := by omega
    have hl2 : decide (k < 0) = false := decide_eq_false hl
    clear hk hk2
    go_enter Tryz.func10, Tryz.ntmps10
    go_wp2_with fail
    go_ret2
    exact ⟨rfl, (by repeat (first | (with_reducible first | exact Below.refl _ _ | assumption | exact Nat.le_refl _ | refine Below.drew ?_ | refine Below.alloc ?_ ?_ _ | refine below_drewN ?_ _ | refine Below.setCell ?_ ?_ _ | refine le_alloc ?_ | refine le_set ?_ | refine le_drew ?_ | refine le_drewN ?_ | refine below_step (by assumption) ?_ ?_ | refine le_below (by assumption) ?_) | (dsimp only; omega)))⟩
theorem rread_plain (q : (eRB r S).P R W w) (k : Int) (hk : 0 ≤ k ∧ k ≤ 3) (x : Nat) (z : Int) (hx : x < W64) (hh : M.hasV x z = true) : Calls Tryz.prog 10 #[.pointer (some ⟨r, 0, none⟩), .int .i64 k, .int .u64 x, .int .i64 z] w (fun e w' => e = .returned (.tuple #[.int .u64 (M.readV S.F x z : Nat), .bool true]) ∧ Below w.heap.size w w') := by
  have hp := Lib.hid (rplain_q q x z hx)
  rw [hh] at hp
  obtain ⟨m, c, p, u, sv, L, came, hc, g, h5, h6⟩ := rb_open q
  have c0 := (rcells g).c0
  have lt := (rcells g).lt
  have hr : Hid (∀ w1, Below w.heap.size w w1 → Calls Tryz.prog 45 #[.pointer (some ⟨m, 0, none⟩), .int .u64 x, .int .i64 z] w1 (fun e w' => e = .returned (.tuple #[.int .u64 (M.readV S.F x z : Nat), .bool true]) ∧ Below w1.heap.size w1 w')) := fun w1 hb => by
    obtain ⟨_, _, e, qm⟩ := (g.below hb).get 4 rfl
    have := M.readr_c _ m x z S.F w1 (Lib.hid qm) (Lib.hid hx)
    rw [hh] at this
    exact this
  have k0 : decide (k < 0) = false := decide_eq_false (by omega)
  have k3 : decide (3 < k) = false := decide_eq_false (by omega)
  have k0' : ¬ k < 0 := by omega
  have k3' : ¬ 3 < k := by omega
  clear g h5 h6 q hc hx hh hk
  generalize M.readV S.F x z = vv at *
  go_enter Tryz.func10, Tryz.ntmps10
  go_wp2_with fail
  refine hp.out.mono ?_; rintro e w1 ⟨rfl, hb1⟩
  have d0 := (hb1.cell (p := ⟨r, 0, none⟩) lt).trans c0
  have HR := Lib.hid (hr.out w1 hb1)
  have HB := Lib.hid hb1; clear hb1
  go_wp2_with fail
  refine HR.out.mono ?_; rintro e w2 ⟨rfl, hb2⟩
  have HB2 := Lib.hid (HB.out.trans (hb2.mono HB.out.size))
  clear hb2
  go_wp2_with fail
  go_ret2
  exact ⟨rfl, HB2.out⟩
theorem rread_not (q : (eRB r S).P R W w) (k : Int) (hk : k = 0 ∨ k = 3) (x : Nat) (z : Int) (hx : x < W64) (hh : M.hasV x z = false) : Calls Tryz.prog 10 #[.pointer (some ⟨r, 0, none⟩), .int .i64 k, .int .u64 x, .int .i64 z] w (fun e w' => e = .returned (.tuple #[.int .u64 0, .bool false]) ∧ Below w.heap.size w w') := by
  have hp := Lib.hid (rplain_q q x z hx)
  rw [hh] at hp
  clear q hx hh
  rcases hk with rfl | rfl
  · go_enter Tryz.func10, Tryz.ntmps10
    go_wp2_with fail
    refine hp.out.mono ?_; rintro e w1 ⟨rfl, hb1⟩
    go_wp2_with fail
    go_ret2
    exact ⟨rfl, hb1⟩
  · go_enter Tryz.func10, Tryz.ntmps10
    go_wp2_with fail
    refine hp.out.mono ?_; rintro e w1 ⟨rfl, hb1⟩
    go_wp2_with fail
    go_ret2
    exact ⟨rfl, hb1⟩
theorem rread_dev1 (q : (eRB r S).P R W w) (x : Nat) (z : Int) (hx : x < W64) (hh : M.hasV x z = false) : Calls Tryz.prog 10 #[.pointer (some ⟨r, 0, none⟩), .int .i64 1, .int .u64 x, .int .i64 z] w (Upon (.tuple #[.int .u64 (S.D.val x z : Nat), .bool (okD x z)]) (eRB r { S with D := (S.D.rd x z).fol }) R W w) := by
  have hp := Lib.hid (rplain_q q x z hx)
  rw [hh] at hp
  obtain ⟨m, c, p, u, sv, L, came, hc, g, h5, h6⟩ := rb_open q
  have lk : Hid (∀ w1, Below w.heap.size w w1 → Calls Tryz.prog 46 #[.pointer (some ⟨r, 0, none⟩), .int .u64 x, .int .i64 z] w1 (fun e w' => e = .returned (.tuple #[.int .u64 (S.D.val x z : Nat), .bool (okD x z)]) ∧ Grp R W w (dz (eBR r m c p u sv S.cyc came S.D.one) c p u came (S.D.rd x z) [M.eR m S.F, eEv sv L]) w')) := fun w1 hb => by
    have hc' := rcells (g.below hb)
    exact look_c _ r c p u came S.D _ R W w w1 (Lib.hid (g.below hb)) (Lib.hid hc.lt) hc'.c1 hc'.c2 hc'.c3 x z hx
  have e1 : (S.D.rd x z).one = S.D.one := by unfold Dv.rd; split; rfl; split <;> rfl
  have HC := Lib.hid (hc.fol (S.D.rd x z))
  have H5 := Lib.hid h5; have H6 := Lib.hid h6
  rw [← e1] at lk
  have E1 := Lib.hid e1
  clear g h5 h6 q hc hx hh e1
  generalize S.D.val x z = vv at *
  generalize okD x z = bb at *
  generalize S.D.rd x z = D1 at *
  go_enter Tryz.func10, Tryz.ntmps10
  go_wp2_with fail
  refine hp.out.mono ?_; rintro e w1 ⟨rfl, hb1⟩
  have HL := Lib.hid (lk.out w1 hb1)
  clear lk hp hb1
  go_wp2_with fail
  refine HL.out.mono ?_; rintro e w2 ⟨rfl, g2⟩
  have HS := Lib.hid (settle_c r m c p u came sv S.cyc came D1 [M.eR m S.F, eEv sv L] R W w w2 (Lib.hid g2))
  clear g2 HL
  go_wp2_with fail
  refine HS.out.mono ?_; rintro e w3 ⟨rfl, g3⟩
  have G3 := Lib.hid g3; clear g3 HS
  go_wp2_with fail
  go_ret2
  exact ⟨rfl, rb_close G3.out HC.out H5.out H6.out⟩
theorem rread_dev2 (q : (eRB r S).P R W w) (x : Nat) (z : Int) (hx : x < W64) (hh : M.hasV x z = false) : Calls Tryz.prog 10 #[.pointer (some ⟨r, 0, none⟩), .int .i64 2, .int .u64 x, .int .i64 z] w (Upon (.tuple #[.int .u64 (S.D.val x z : Nat), .bool (okD x z)]) (eRB r { S with D := (S.D.rd x z).fol }) R W w) := by
  have hp := Lib.hid (rplain_q q x z hx)
  rw [hh] at hp
  obtain ⟨m, c, p, u, sv, L, came, hc, g, h5, h6⟩ := rb_open q
  have lk : Hid (∀ w1, Below w.heap.size w w1 → Calls Tryz.prog 46 #[.pointer (some ⟨r, 0, none⟩), .int .u64 x, .int .i64 z] w1 (fun e w' => e = .returned (.tuple #[.int .u64 (S.D.val x z : Nat), .bool (okD x z)]) ∧ Grp R W w (dz (eBR r m c p u sv S.cyc came S.D.one) c p u came (S.D.rd x z) [M.eR m S.F, eEv sv L]) w')) := fun w1 hb => by
    have hc' := rcells (g.below hb)
    exact look_c _ r c p u came S.D _ R W w w1 (Lib.hid (g.below hb)) (Lib.hid hc.lt) hc'.c1 hc'.c2 hc'.c3 x z hx
  have e1 : (S.D.rd x z).one = S.D.one := by unfold Dv.rd; split; rfl; split <;> rfl
  have HC := Lib.hid (hc.fol (S.D.rd x z))
  have H5 := Lib.hid h5; have H6 := Lib.hid h6
  rw [← e1] at lk
  have E1 := Lib.hid e1
  clear g h5 h6 q hc hx hh e1
  generalize S.D.val x z = vv at *
  generalize okD x z = bb at *
  generalize S.D.rd x z = D1 at *
  go_enter Tryz.func10, Tryz.ntmps10
  go_wp2_with fail
  refine hp.out.mono ?_; rintro e w1 ⟨rfl, hb1⟩
  have HL := Lib.hid (lk.out w1 hb1)
  clear lk hp hb1
  go_wp2_with fail
  refine HL.out.mono ?_; rintro e w2 ⟨rfl, g2⟩
  have HS := Lib.hid (settle_c r m c p u came sv S.cyc came D1 [M.eR m S.F, eEv sv L] R W w w2 (Lib.hid g2))
  clear g2 HL
  go_wp2_with fail
  refine HS.out.mono ?_; rintro e w3 ⟨rfl, g3⟩
  have G3 := Lib.hid g3; clear g3 HS
  go_wp2_with fail
  go_ret2
  exact ⟨rfl, rb_close G3.out HC.out H5.out H6.out⟩
theorem rread_b (q : (eRB r S).P R W w) (k : Int) (x : Nat) (z : Int) (hx : x < W64) : Calls Tryz.prog 10 #[.pointer (some ⟨r, 0, none⟩), .int .i64 k, .int .u64 x, .int .i64 z] w (Upon (.tuple #[.int .u64 (S.val k x z : Nat), .bool (mayB k x z)]) (eRB r (S.rd k x z)) R W w) := by
  by_cases h0 : k = 0 ∨ k = 3
  · have e1 : S.val k x z = M.readV S.F x z := by unfold Bs.val; rw [if_pos h0]
    have e2 : mayB k x z = M.hasV x z := by unfold mayB; rw [if_pos h0]
    have e3 : S.rd k x z = S := by unfold Bs.rd; rw [if_neg (by omega)]
    rw [e1, e2, e3]
    cases hh : M.hasV x z
    · have e4 : M.readV S.F x z = 0 := by unfold M.readV; rw [hh]; rfl
      rw [e4]
      exact rupon_read q (rread_not q k h0 x z hx hh)
    · exact rupon_read q (rread_plain q k (by omega) x z hx hh)
  · by_cases h1 : k = 1 ∨ k = 2
    · cases hh : M.hasV x z
      · have e1 : S.val k x z = S.D.val x z := by unfold Bs.val; rw [if_neg h0, if_pos h1, hh]; rfl
        have e2 : mayB k x z = okD x z := by unfold mayB; rw [if_neg h0, if_pos h1, hh]; rfl
        have e3 : S.rd k x z = { S with D := (S.D.rd x z).fol } := by unfold Bs.rd; rw [if_pos ⟨h1, hh⟩]
        rw [e1, e2, e3]
        rcases h1 with rfl | rfl
        · exact rread_dev1 q x z hx hh
        · exact rread_dev2 q x z hx hh
      · have e1 : S.val k x z = M.readV S.F x z := by unfold Bs.val; rw [if_neg h0, if_pos h1, if_pos hh]
        have e2 : mayB k x z = true := by unfold mayB; rw [if_neg h0, if_pos h1, hh]; rfl
        have e3 : S.rd k x z = S := by unfold Bs.rd; rw [if_neg (by rw [hh]; rintro ⟨-, h⟩; cases h)]
        rw [e1, e2, e3]
        exact rupon_read q (rread_plain q k (by omega) x z hx hh)
    · have e1 : S.val k x z = 0 := by unfold Bs.val; rw [if_neg h0, if_neg h1]
      have e2 : mayB k x z = false := by unfold mayB; rw [if_neg h0, if_neg h1]
      have e3 : S.rd k x z = S := by unfold Bs.rd; rw [if_neg (fun h => h1 h.1)]
      rw [e1, e2, e3]
      exact rupon_read q (rread_out q k h0 h1 x z)
end
end Go.Proofs.YtoicpikkcefheaaGreat
