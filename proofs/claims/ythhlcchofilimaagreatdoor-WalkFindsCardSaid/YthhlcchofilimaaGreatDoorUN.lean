/- Taken from other texts: what is needed of them. -/
import Derived.Test.YthhlcchofilimaaGreatDoorUA
import Derived.Test.YthhlcchofilimaaGreatDoorUB
import Derived.Test.YthhlcchofilimaaGreatDoorUC
import Derived.Test.YthhlcchofilimaaGreatDoorUD
import Derived.Test.YthhlcchofilimaaGreatDoorUE
import Derived.Test.YthhlcchofilimaaGreatDoorUG
import Derived.Test.YthhlcchofilimaaGreatDoorUH
import Derived.Test.YthhlcchofilimaaGreatDoorUI
import Derived.Test.YthhlcchofilimaaGreatDoorUJ
import Derived.Test.YthhlcchofilimaaGreatDoorUK
import Derived.Test.YthhlcchofilimaaGreatDoorUM
import Derived.Lib.QuietBelow
import Derived.Laws.Bits64
namespace Go.Proofs.YthhlcchofilimaaGreatDoor.U
set_option linter.unusedVariables false
set_option linter.unusedSimpArgs false
set_option maxRecDepth 20000
open Go.ChangeShapes Go.WideShapes Go.ChangeAt Go.RowKit Go.Sort
open M (Fp Dj Cw Up Th Grp GrpAt jn exT)
set_option maxRecDepth 20000
/-- Can an access of that kind be made there? -/
def mayB (k : Int) (x : Nat) (z : Int) : Bool := if k = 0 ∨ k = 3 then M.hasV x z else if k = 1 ∨ k = 2 then (M.hasV x z || okD x z) else false
def Bs.val (S : Bs) (k : Int) (x : Nat) (z : Int) : Nat := if k = 0 ∨ k = 3 then M.readV S.F x z else if k = 1 ∨ k = 2 then (if M.hasV x z = true then M.readV S.F x z else S.D.val x z) else 0
def Bs.rd (S : Bs) (k : Int) (x : Nat) (z : Int) : Bs := if (k = 1 ∨ k = 2) ∧ M.hasV x z = false then { S with D := (S.D.rd x z).fol } else S
def Bs.wr (S : Bs) (x : Nat) (z : Int) (v : Nat) : Bs := if M.hasV x z = true then { S with F := M.wrF S.F x z v } else { S with D := (S.D.wr x z v).fol }
section
variable {R W : Fp} {w : World} {b m : Nat} {F : Nat → Nat} {S : Bs}
theorem readMb (q : (eMb m F).P R W w) (x : Nat) (z : Int) (hx : x < W64) : Calls Tryz.prog 73 #[.pointer (some ⟨m, 0, none⟩), .int .u64 x, .int .i64 z] w (fun e w' => e = .returned (.tuple #[.int .u64 (M.readV F x z : Nat), .bool (M.hasV x z)]) ∧ Below w.heap.size w w') := by
  obtain ⟨⟨e, T, h1, h2, h3⟩, hF⟩ := q
  exact M.read_c m x z F w h1.mem (Lib.hid hx) hF
theorem may_0 (q : (eBus b S).P R W w) (k : Int) (hk : k = 0 ∨ k = 3) (x : Nat) (z : Int) (hx : x < W64) : Calls Tryz.prog 46 #[.pointer (some ⟨b, 0, none⟩), .int .i64 k, .int .u64 x, .int .i64 z] w (RetB (M.hasV x z) w) := by
  have hp := Lib.hid (plain_q q x z hx)
  clear hx q
  generalize M.hasV x z = bb at *
  rcases hk with rfl | rfl
  all_goals
    go_enter Tryz.func46, Tryz.ntmps46
    go_wp2_with fail
    refine hp.out.mono ?_; rintro e w1 ⟨rfl, hb1⟩
    go_wp2_with fail
    go_ret
    exact ⟨rfl, hb1⟩
theorem bus_below {w1 : World} (q : (eBus b S).P R W w) (hb : Below w.heap.size w w1) : (eBus b S).P (Up R w w1) (Up W w w1) w1 := by
  obtain ⟨m, c, p, u, sv, g, h5, h6⟩ := bus_open q
  exact (bus_close (g.below hb) h5 h6).1
theorem have_q (q : (eBus b S).P R W w) (x : Nat) (z : Int) (hx : x < W64) (hz : (Lit.int .i64 z).wf = true) : Calls Tryz.prog 70 #[.pointer (some ⟨b, 1, none⟩), .int .u64 x, .int .i64 z] w (RetB (okD x z) w) := by
  obtain ⟨m, c, p, u, sv, g, h5, h6⟩ := bus_open q
  obtain ⟨_, _, q1⟩ := g.get 1 rfl
  exact haveD q1 x z hx hz
theorem may_1 (q : (eBus b S).P R W w) (k : Int) (hk : k = 1 ∨ k = 2) (x : Nat) (z : Int) (hx : x < W64) (hz : (Lit.int .i64 z).wf = true) : Calls Tryz.prog 46 #[.pointer (some ⟨b, 0, none⟩), .int .i64 k, .int .u64 x, .int .i64 z] w (RetB (M.hasV x z || okD x z) w) := by
  have hp := Lib.hid (plain_q q x z hx)
  have hh : Hid (∀ w1, Below w.heap.size w w1 → Calls Tryz.prog 70 #[.pointer (some ⟨b, 1, none⟩), .int .u64 x, .int .i64 z] w1 (RetB (okD x z) w1)) := fun w1 hb => have_q (bus_below q hb) x z hx hz
  obtain ⟨m, c, p, u, sv, g, h5, h6⟩ := bus_open q
  obtain ⟨h4, c0, c1, c2, c3, c4, c5, c6, f5, f6⟩ := bus_cells g
  clear g h5 h6 q hx hz c5 c6 f5 f6
  generalize okD x z = cc at *
  generalize M.hasV x z = bb at *
  cases bb
  · rcases hk with rfl | rfl
    all_goals
      go_enter Tryz.func46, Tryz.ntmps46
      go_wp2_with fail
      refine hp.out.mono ?_; rintro e w1 ⟨rfl, hb1⟩
      have HB := Lib.hid hb1; clear hb1
      go_wp2_with fail
      refine (hh.out w1 HB.out).mono ?_; rintro e w2 ⟨rfl, hb2⟩
      have HB2 := Lib.hid hb2; clear hb2
      go_wp2_with fail
      go_ret
      exact ⟨rfl, HB.out.trans (HB2.out.mono HB.out.size)⟩
  · rcases hk with rfl | rfl
    all_goals
      go_enter Tryz.func46, Tryz.ntmps46
      go_wp2_with fail
      refine hp.out.mono ?_; rintro e w1 ⟨rfl, hb1⟩
      have HB := Lib.hid hb1; clear hb1
      go_wp2_with fail
      go_ret
      exact ⟨rfl, HB.out⟩
theorem may_no (q : (eBus b S).P R W w) (k : Int) (h0 : ¬ k = 0) (h1 : ¬ k = 1) (h2 : ¬ k = 2) (h3 : ¬ k = 3) (x : Nat) (z : Int) : Calls Tryz.prog 46 #[.pointer (some ⟨b, 0, none⟩), .int .i64 k, .int .u64 x, .int .i64 z] w (RetB false w) := by
  have d0 : (k == 0) = false := by rw [beq_eq_false_iff_ne]; exact h0
  have d1 : (k == 1) = false := by rw [beq_eq_false_iff_ne]; exact h1
  have d2 : (k == 2) = false := by rw [beq_eq_false_iff_ne]; exact h2
  have d3 : (k == 3) = false := by rw [beq_eq_false_iff_ne]; exact h3
  clear h0 h1 h2 h3 q
  go_enter Tryz.func46, Tryz.ntmps46
  go_wp2_with fail
  go_ret
  exact ⟨rfl, (by repeat (first | (with_reducible first | exact Below.refl _ _ | assumption | exact Nat.le_refl _ | refine Below.drew ?_ | refine Below.alloc ?_ ?_ _ | refine below_drewN ?_ _ | refine Below.setCell ?_ ?_ _ | refine le_alloc ?_ | refine le_set ?_ | refine le_drew ?_ | refine le_drewN ?_ | refine below_step (by assumption) ?_ ?_ | refine le_below (by assumption) ?_) | (dsimp only; omega)))⟩
theorem may_q (q : (eBus b S).P R W w) (k : Int) (x : Nat) (z : Int) (hx : x < W64) (hz : (Lit.int .i64 z).wf = true) : Calls Tryz.prog 46 #[.pointer (some ⟨b, 0, none⟩), .int .i64 k, .int .u64 x, .int .i64 z] w (RetB (mayB k x z) w) := by
  unfold mayB
  by_cases h0 : k = 0 ∨ k = 3
  · rw [if_pos h0]; exact may_0 q k h0 x z hx
  · rw [if_neg h0]
    by_cases h1 : k = 1 ∨ k = 2
    · rw [if_pos h1]; exact may_1 q k h1 x z hx hz
    · rw [if_neg h1]; exact may_no q k (fun e => h0 (.inl e)) (fun e => h1 (.inl e)) (fun e => h1 (.inr e)) (fun e => h0 (.inr e)) x z
theorem mread_q (q : (eBus b S).P R W w) : ∃ m, w.cell? ⟨b, 0, none⟩ = some (.pointer (some ⟨m, 0, none⟩)) ∧ ∀ (x : Nat) (z : Int), x < W64 → ∀ w1, Below w.heap.size w w1 → Calls Tryz.prog 73 #[.pointer (some ⟨m, 0, none⟩), .int .u64 x, .int .i64 z] w1 (fun e w' => e = .returned (.tuple #[.int .u64 (M.readV S.F x z : Nat), .bool (M.hasV x z)]) ∧ Below w1.heap.size w1 w') := by
  obtain ⟨m, c, p, u, sv, g, h5, h6⟩ := bus_open q
  exact ⟨m, (bus_cells g).c0, fun x z hx w1 hb => by
    obtain ⟨_, _, q1⟩ := (g.below hb).get 2 rfl
    exact readMb q1 x z hx⟩
theorem read_0 (q : (eBus b S).P R W w) (k : Int) (hk : k = 0 ∨ k = 3) (x : Nat) (z : Int) (hx : x < W64) : Calls Tryz.prog 60 #[.pointer (some ⟨b, 0, none⟩), .int .i64 k, .int .u64 x, .int .i64 z] w (fun e w' => e = .returned (.tuple #[.int .u64 (M.readV S.F x z : Nat), .bool (M.hasV x z)]) ∧ Below w.heap.size w w') := by
  obtain ⟨m, c0, hm⟩ := mread_q q
  have hb0 := q
  obtain ⟨m', c', p', u', sv', g', -⟩ := bus_open q
  have h4 := (bus_cells g').lt
  have hr := Lib.hid (hm x z hx w (Below.refl _ _))
  clear hm hx q hb0 g'
  generalize M.hasV x z = bb at *
  generalize M.readV S.F x z = vv at *
  rcases hk with rfl | rfl
  all_goals
    go_enter Tryz.func60, Tryz.ntmps60
    go_wp2_with fail
    refine hr.out.mono ?_; rintro e w1 ⟨rfl, hb1⟩
    have HB := Lib.hid hb1; clear hb1
    go_wp2_with fail
    go_ret2
    exact ⟨rfl, HB.out⟩
theorem read_ram (q : (eBus b S).P R W w) (k : Int) (hk : k = 1 ∨ k = 2) (x : Nat) (z : Int) (hx : x < W64) (hh : M.hasV x z = true) : Calls Tryz.prog 60 #[.pointer (some ⟨b, 0, none⟩), .int .i64 k, .int .u64 x, .int .i64 z] w (fun e w' => e = .returned (.tuple #[.int .u64 (M.readV S.F x z : Nat), .bool true]) ∧ Below w.heap.size w w') := by
  obtain ⟨m, c0, hm⟩ := mread_q q
  have hp := Lib.hid (plain_q q x z hx)
  obtain ⟨m', c', p', u', sv', g', -⟩ := bus_open q
  have h4 := (bus_cells g').lt
  have hr := Lib.hid (hm x z hx)
  clear hm hx q g'
  rw [hh] at hp
  have HH : Hid (M.hasV x z = true) := hh
  rw [HH.out] at hr
  clear hh HH
  generalize M.readV S.F x z = vv at *
  rcases hk with rfl | rfl
  all_goals
    go_enter Tryz.func60, Tryz.ntmps60
    go_wp2_with fail
    refine hp.out.mono ?_; rintro e w1 ⟨rfl, hb1⟩
    have c1 := (hb1.cell (p := ⟨b, 0, none⟩) h4).trans c0
    have HB := Lib.hid hb1; clear hb1
    go_wp2_with fail
    refine (hr.out w1 HB.out).mono ?_; rintro e w2 ⟨rfl, hb2⟩
    have HB2 := Lib.hid hb2; clear hb2
    go_wp2_with fail
    go_ret2
    exact ⟨rfl, HB.out.trans (HB2.out.mono HB.out.size)⟩
theorem read_dev (q : (eBus b S).P R W w) (k : Int) (hk : k = 1 ∨ k = 2) (x : Nat) (z : Int) (hx : x < W64) (hz : (Lit.int .i64 z).wf = true) (hh : M.hasV x z = false) : Calls Tryz.prog 60 #[.pointer (some ⟨b, 0, none⟩), .int .i64 k, .int .u64 x, .int .i64 z] w (Upon (.tuple #[.int .u64 (S.D.val x z : Nat), .bool (okD x z)]) (eBus b { S with D := (S.D.rd x z).fol }) R W w) := by
  have hp := Lib.hid (plain_q q x z hx)
  rw [hh] at hp
  obtain ⟨m, c, p, u, sv, g, h5, h6⟩ := bus_open q
  have h4 := (bus_cells g).lt
  have hr : Hid (∀ w1, Below w.heap.size w w1 → Calls Tryz.prog 74 #[.pointer (some ⟨b, 1, none⟩), .int .u64 x, .int .i64 z] w1 (fun e w' => e = .returned (.tuple #[.int .u64 (S.D.val x z : Nat), .bool (okD x z)]) ∧ Grp R W w (bl b m c p u sv { S with D := (S.D.rd x z).fol }) w')) :=
    fun w1 hb => (g.below hb).step 1 rfl _ (fun R W q => readD q x z hx hz)
  have H5 := Lib.hid h5; have H6 := Lib.hid h6
  clear hx hz q g h5 h6 hh
  generalize S.D.val x z = vv at *
  generalize okD x z = bb at *
  rcases hk with rfl | rfl
  all_goals
    go_enter Tryz.func60, Tryz.ntmps60
    go_wp2_with fail
    refine hp.out.mono ?_; rintro e w1 ⟨rfl, hb1⟩
    have HB := Lib.hid hb1; clear hb1
    go_wp2_with fail
    refine (hr.out w1 HB.out).mono ?_; rintro e w2 ⟨rfl, g2⟩
    have G2 := Lib.hid g2; clear g2
    go_wp2_with fail
    go_ret2
    exact ⟨rfl, bus_close G2.out H5.out H6.out⟩
theorem read_no (q : (eBus b S).P R W w) (k : Int) (h0 : ¬ k = 0) (h1 : ¬ k = 1) (h2 : ¬ k = 2) (h3 : ¬ k = 3) (x : Nat) (z : Int) : Calls Tryz.prog 60 #[.pointer (some ⟨b, 0, none⟩), .int .i64 k, .int .u64 x, .int .i64 z] w (fun e w' => e = .returned (.tuple #[.int .u64 0, .bool false]) ∧ Below w.heap.size w w') := by
  have d0 : (k == 0) = false := by rw [beq_eq_false_iff_ne]; exact h0
  have d1 : (k == 1) = false := by rw [beq_eq_false_iff_ne]; exact h1
  have d2 : (k == 2) = false := by rw [beq_eq_false_iff_ne]; exact h2
  have d3 : (k == 3) = false := by rw [beq_eq_false_iff_ne]; exact h3
  clear h0 h1 h2 h3 q
  go_enter Tryz.func60, Tryz.ntmps60
  go_wp2_with fail
  go_ret2
  exact ⟨rfl, (by repeat (first | (with_reducible first | exact Below.refl _ _ | assumption | exact Nat.le_refl _ | refine Below.drew ?_ | refine Below.alloc ?_ ?_ _ | refine below_drewN ?_ _ | refine Below.setCell ?_ ?_ _ | refine le_alloc ?_ | refine le_set ?_ | refine le_drew ?_ | refine le_drewN ?_ | refine below_step (by assumption) ?_ ?_ | refine le_below (by assumption) ?_) | (dsimp only; omega)))⟩
theorem read_b (q : (eBus b S).P R W w) (k : Int) (x : Nat) (z : Int) (hx : x < W64) (hz : (Lit.int .i64 z).wf = true) : Calls Tryz.prog 60 #[.pointer (some ⟨b, 0, none⟩), .int .i64 k, .int .u64 x, .int .i64 z] w (Upon (.tuple #[.int .u64 (S.val k x z : Nat), .bool (mayB k x z)]) (eBus b (S.rd k x z)) R W w) := by
  by_cases h0 : k = 0 ∨ k = 3
  · have e1 : S.val k x z = M.readV S.F x z := by unfold Bs.val; rw [if_pos h0]
    have e2 : mayB k x z = M.hasV x z := by unfold mayB; rw [if_pos h0]
    have e3 : S.rd k x z = S := by unfold Bs.rd; rw [if_neg (by omega)]
    rw [e1, e2, e3]
    exact upon_read q (read_0 q k h0 x z hx)
  · by_cases h1 : k = 1 ∨ k = 2
    · cases hh : M.hasV x z
      · have e1 : S.val k x z = S.D.val x z := by unfold Bs.val; rw [if_neg h0, if_pos h1, hh]; rfl
        have e2 : mayB k x z = okD x z := by unfold mayB; rw [if_neg h0, if_pos h1, hh]; rfl
        have e3 : S.rd k x z = { S with D := (S.D.rd x z).fol } := by unfold Bs.rd; rw [if_pos ⟨h1, hh⟩]
        rw [e1, e2, e3]
        exact read_dev q k h1 x z hx hz hh
      · have e1 : S.val k x z = M.readV S.F x z := by unfold Bs.val; rw [if_neg h0, if_pos h1, if_pos hh]
        have e2 : mayB k x z = true := by unfold mayB; rw [if_neg h0, if_pos h1, hh]; rfl
        have e3 : S.rd k x z = S := by unfold Bs.rd; rw [if_neg (by rw [hh]; rintro ⟨-, h⟩; cases h)]
        rw [e1, e2, e3]
        exact upon_read q (read_ram q k h1 x z hx hh)
    · have e1 : S.val k x z = 0 := by unfold Bs.val; rw [if_neg h0, if_neg h1]
      have e2 : mayB k x z = false := by unfold mayB; rw [if_neg h0, if_neg h1]
      have e3 : S.rd k x z = S := by unfold Bs.rd; rw [if_neg (fun h => h1 h.1)]
      rw [e1, e2, e3]
      exact upon_read q (read_no q k (fun e => h0 (.inl e)) (fun e => h1 (.inl e)) (fun e => h1 (.inr e)) (fun e => h0 (.inr e)) x z)
end
end Go.Proofs.YthhlcchofilimaaGreatDoor.U
