/- Waits, Pending. -/
import Derived.Test.YteeifdmnagbjeaaDoorB5
namespace Go.Proofs.YteeifdmnagbjeaaDoor
open Go.ChangeShapes Go.WideShapes Go.ChangeAt Go.RowKit Go.Sort Y
set_option linter.unusedVariables false
set_option linter.unusedSimpArgs false

theorem waits_c (S : Nat → Nat) (l : Nat) (hS : Hid (OkS S)) (hl : Hid (l < 18446744073709551616)) (w : World) : Calls Tryd.prog 14 #[.agg (cs S), .int .u64 l] w (RetB (pendN S l == 0) w) := by
  obtain ⟨W0, hW⟩ : ∃ W0, W0 = w.alloc (Obj.cells (cs S) 26) := ⟨_, rfl⟩
  have R : Row W0 w.heap.size 26 (cs S) := by rw [hW]; exact row_new _ _ _
  have HB : Hid (Below w.heap.size w W0) := by show Below _ _ _; rw [hW]; exact (by repeat (first | (with_reducible first | exact Below.refl _ _ | assumption | exact Nat.le_refl _ | refine Below.drew ?_ | refine Below.alloc ?_ ?_ _ | refine Below.setCell ?_ ?_ _ | refine le_alloc ?_ | refine le_set ?_ | refine le_drew ?_ | refine below_step (by assumption) ?_ ?_ | refine le_below (by assumption) ?_) | (dsimp only; omega)))
  have P := Lib.hid (pend_c S w.heap.size l hS hl W0 ((R.cell 4).trans rfl) ((R.cell 5).trans rfl))
  have HW := Lib.hid hW
  clear hW R hS hl
  go_enter Tryd.func14, Tryd.ntmps14
  go_wp2_with fail
  rw [show w.alloc (Obj.cells (cs S) 26) = W0 from HW.out.symm]
  refine P.out.mono ?_; rintro e w1 ⟨rfl, hb⟩
  replace HB := Lib.hid (below_step hb HB.out HB.out.size)
  clear hb P
  go_wp2_with fail
  go_ret
  exact retB_mk (cast_beq (pendN S l) 0) HB.out
/-- The ranks by what may interrupt. -/
def rdyF (S : Nat → Nat) (l : Nat) (A B : Bool) : Nat → Nat :=
  bif B then layN (bif A then layN zF 0 (pendN S l &&& (18446744073709551615 - S 3)) 6 else zF) 6 (pendN S l &&& S 3) 6 else (bif A then layN zF 0 (pendN S l &&& (18446744073709551615 - S 3)) 6 else zF)
def RetPd (f : Nat → Nat) (W : World) (e : Ending) (w' : World) : Prop := ∃ v b, e = .returned (.tuple #[.int .u64 (v : Nat), .bool b]) ∧ firstP f v b ∧ Below W.heap.size W w'
theorem pend_lt {S : Nat → Nat} (h : OkS S) (l : Nat) : pendN S l < 18446744073709551616 := and_lt2 _ _ (h.u 4 (by decide))
/-- What stands while Pending runs. -/
def Stand (w : World) (rb : Nat) (S f : Nat → Nat) (wx : World) : Prop := Below w.heap.size w wx ∧ Row wx w.heap.size 26 (cs S) ∧ Row wx rb 54 (r12 f) ∧ w.heap.size < rb ∧ rb < wx.heap.size ∧ G wx ∧ 0 < w.heap.size
theorem Stand.below {w : World} {rb : Nat} {S f : Nat → Nat} {w1 w2 : World} (h : Stand w rb S f w1) (hb : Below w1.heap.size w1 w2) : Stand w rb S f w2 :=
  ⟨below_step hb h.1 h.1.size, h.2.1.below hb (Nat.lt_trans h.2.2.2.1 h.2.2.2.2.1), h.2.2.1.below hb h.2.2.2.2.1, h.2.2.2.1, Nat.lt_of_lt_of_le h.2.2.2.2.1 hb.size, g_below h.2.2.2.2.2.1 hb (Nat.lt_of_le_of_lt (Nat.zero_le _) h.2.2.2.2.1), h.2.2.2.2.2.2⟩
theorem Stand.lay {w : World} {rb : Nat} {S f f2 : Nat → Nat} {w1 w2 : World} (h : Stand w rb S f w1) (hr : Row w2 rb 54 (r12 f2)) (hg : w1.grownBy w2 (some rb)) : Stand w rb S f2 w2 :=
  ⟨below_grown h.1 hg h.1.size (Nat.le_of_lt h.2.2.2.1), by
    have hlt := Nat.lt_trans h.2.2.2.1 h.2.2.2.2.1
    unfold Row; rw [hg.block w.heap.size hlt (fun e => by have := Option.some.inj e; have := h.2.2.2.1; omega)]; exact h.2.1, hr, h.2.2.2.1, Nat.lt_of_lt_of_le h.2.2.2.2.1 hg.size, g_grown h.2.2.2.2.2.1 hg (by have := h.2.2.2.1; omega), h.2.2.2.2.2.2⟩
set_option maxRecDepth 100000 in
set_option maxHeartbeats 1000000 in
theorem pending_false_false (S : Nat → Nat) (m t : Int) (l : Nat) (hS : Hid (OkS S)) (hl : Hid (l < 18446744073709551616)) (ht : tkI m = t)
    (HM : Hid (∀ u, Calls Tryd.prog 26 #[.int .u64 (S 0 : Nat), .int .i64 t, .int .i64 3] u (RetB false u))) (HS : Hid (∀ u, Calls Tryd.prog 26 #[.int .u64 (S 0 : Nat), .int .i64 t, .int .i64 1] u (RetB false u)))
    (w : World) (hG : Hid (G w)) : Calls Tryd.prog 13 #[.agg (cs S), .int .i64 m, .int .u64 l] w (RetPd (rdyF S l false false) w) := by
  have PT : Hid (∀ u, Calls Tryd.prog 15 #[.int .i64 m] u (RetIX t u)) := fun u => by have := taken_c m u; rw [ht] at this; exact this
  obtain ⟨W0, hW⟩ : ∃ W0, W0 = w.alloc (Obj.cells (cs S) 26) := ⟨_, rfl⟩
  have R : Hid (Row W0 w.heap.size 26 (cs S)) := by show Row _ _ _ _; rw [hW]; exact row_new _ _ _
  have HB : Hid (Below w.heap.size w W0) := by show Below _ _ _; rw [hW]; exact (by repeat (first | (with_reducible first | exact Below.refl _ _ | assumption | exact Nat.le_refl _ | refine Below.drew ?_ | refine Below.alloc ?_ ?_ _ | refine Below.setCell ?_ ?_ _ | refine le_alloc ?_ | refine le_set ?_ | refine le_drew ?_ | refine below_step (by assumption) ?_ ?_ | refine le_below (by assumption) ?_) | (dsimp only; omega)))
  have HG : Hid (G W0) := by show G _; rw [hW]; exact g_alloc hG.out _
  have hz : Hid (w.heap.size < W0.heap.size) := by show _ < _; rw [hW, sz_alloc]; exact Nat.lt_succ_self _
  have P := Lib.hid (pend_c S w.heap.size l hS hl W0 ((R.out.cell 4).trans rfl) ((R.out.cell 5).trans rfl))
  have bl := pend_lt hS.out l
  have s3 := hS.out.u 3 (by decide)
  have N1 := u_andNot (pendN S l) (S 3) bl s3
  have N2 := u_and (pendN S l) (S 3) bl s3
  have n1 : Hid (pendN S l &&& (18446744073709551615 - S 3) < 18446744073709551616) := and_lt _ _ bl
  have n2 : Hid (pendN S l &&& S 3 < 18446744073709551616) := and_lt _ _ bl
  have RF : Hid (rdyF S l false false = rdyF S l false false) := rfl
  generalize hx : rdyF S l false false = FF at RF ⊢
  unfold rdyF at hx
  generalize pendN S l &&& (18446744073709551615 - S 3) = b1 at N1 n1 hx
  generalize pendN S l &&& S 3 = b2 at N2 n2 hx
  generalize pendN S l = b0 at P N1 N2
  have HX : Hid (FF = FF) := rfl
  simp only [cond_true, cond_false] at hx
  have HFF := Lib.hid hx
  have HW := Lib.hid hW
  have hw0 : Hid (0 < w.heap.size) := g_lt hG.out
  clear hW hS hl ht bl s3 hx RF HX hG
  go_enter Tryd.func13, Tryd.ntmps13
  go_wp2_with fail
  refine (PT.out _).mono ?_; rintro e w1 ⟨rfl, h⟩; replace h := h.symm; subst h
  go_wp2_with fail
  rw [show w.alloc (Obj.cells (cs S) 26) = W0 from HW.out.symm]
  refine P.out.mono ?_; rintro e w1 ⟨rfl, hb⟩
  have ST : Hid (Stand w w1.heap.size S zF (w1.alloc (Obj.cells (r12 zF) 54))) :=
    ⟨(below_step hb HB.out HB.out.size).alloc (Nat.le_trans (Nat.le_of_lt hz.out) hb.size) _, row_old (R.out.below hb hz.out) _, row_new _ _ _, Nat.lt_of_lt_of_le hz.out hb.size, by rw [sz_alloc]; exact Nat.lt_succ_self _, g_alloc (g_below HG.out hb (g_lt HG.out)) _, hw0.out⟩
  obtain ⟨W2, hW2⟩ : ∃ W2, W2 = w1.alloc (Obj.cells (r12 zF) 54) := ⟨_, rfl⟩
  rw [← hW2] at ST
  have HW2 := Lib.hid hW2
  have c0 : w1.cell? ⟨w.heap.size, 0, none⟩ = some (.int .u64 (S 0 : Nat)) := ((R.out.below hb hz.out).cell 0).trans rfl
  have c1 : w.heap.size < w1.heap.size := Nat.lt_of_lt_of_le hz.out hb.size
  have c2 : ¬ w.heap.size = w1.heap.size := Nat.ne_of_lt c1
  clear hb P HB HG R hz HW hw0 hW2 PT
  obtain ⟨rb, hrb⟩ : ∃ rb, rb = w1.heap.size := ⟨_, rfl⟩
  have HRB := Lib.hid hrb
  rw [← hrb] at ST
  clear hrb
  go_wp2_with fail
  refine (HM.out _).mono ?_; rintro e w2 ⟨rfl, hb⟩
  rw [show w1.alloc (Obj.cells #[.int .u64 0, .int .u64 0, .int .u64 0, .int .u64 0, .int .u64 0, .int .u64 0, .int .u64 0, .int .u64 0, .int .u64 0, .int .u64 0, .int .u64 0, .int .u64 0] 54) = W2 from HW2.out.symm] at hb
  replace ST := Lib.hid (ST.out.below hb)
  clear hb c0 c1 c2
  have d0 : w2.cell? ⟨w.heap.size, 0, none⟩ = some (.int .u64 (S 0 : Nat)) := (ST.out.2.1.cell 0).trans rfl
  have d3 : w2.cell? ⟨w.heap.size, 3, none⟩ = some (.int .u64 (S 3 : Nat)) := (ST.out.2.1.cell 3).trans rfl
  go_wp2_with fail
  refine (HS.out _).mono ?_; rintro e w4 ⟨rfl, hb⟩
  replace ST := Lib.hid (ST.out.below hb)
  clear hb d0 d3
  have d0 : w4.cell? ⟨w.heap.size, 0, none⟩ = some (.int .u64 (S 0 : Nat)) := (ST.out.2.1.cell 0).trans rfl
  have d3 : w4.cell? ⟨w.heap.size, 3, none⟩ = some (.int .u64 (S 3 : Nat)) := (ST.out.2.1.cell 3).trans rfl
  go_wp2_with fail
  try rw [show w1.heap.size = rb from HRB.out.symm]
  refine (first_c rb zF w4 ST.out.2.2.1).mono ?_; rintro e w9 ⟨v, b, rfl, hf, rfl⟩
  have HF := Lib.hid hf
  clear hf
  go_wp2_with fail
  refine bodyPost_ret (by simp [results, Tryd.results13, go_sem] <;> (first | rfl | (repeat' (first | rfl | apply And.intro)))) rfl ?_
  exact ⟨v, b, rfl, by rw [← HFF.out]; exact HF.out, ST.out.1⟩
set_option maxRecDepth 100000 in
set_option maxHeartbeats 1000000 in
theorem pending_false_true (S : Nat → Nat) (m t : Int) (l : Nat) (hS : Hid (OkS S)) (hl : Hid (l < 18446744073709551616)) (ht : tkI m = t)
    (HM : Hid (∀ u, Calls Tryd.prog 26 #[.int .u64 (S 0 : Nat), .int .i64 t, .int .i64 3] u (RetB false u))) (HS : Hid (∀ u, Calls Tryd.prog 26 #[.int .u64 (S 0 : Nat), .int .i64 t, .int .i64 1] u (RetB true u)))
    (w : World) (hG : Hid (G w)) : Calls Tryd.prog 13 #[.agg (cs S), .int .i64 m, .int .u64 l] w (RetPd (rdyF S l false true) w) := by
  have PT : Hid (∀ u, Calls Tryd.prog 15 #[.int .i64 m] u (RetIX t u)) := fun u => by have := taken_c m u; rw [ht] at this; exact this
  obtain ⟨W0, hW⟩ : ∃ W0, W0 = w.alloc (Obj.cells (cs S) 26) := ⟨_, rfl⟩
  have R : Hid (Row W0 w.heap.size 26 (cs S)) := by show Row _ _ _ _; rw [hW]; exact row_new _ _ _
  have HB : Hid (Below w.heap.size w W0) := by show Below _ _ _; rw [hW]; exact (by repeat (first | (with_reducible first | exact Below.refl _ _ | assumption | exact Nat.le_refl _ | refine Below.drew ?_ | refine Below.alloc ?_ ?_ _ | refine Below.setCell ?_ ?_ _ | refine le_alloc ?_ | refine le_set ?_ | refine le_drew ?_ | refine below_step (by assumption) ?_ ?_ | refine le_below (by assumption) ?_) | (dsimp only; omega)))
  have HG : Hid (G W0) := by show G _; rw [hW]; exact g_alloc hG.out _
  have hz : Hid (w.heap.size < W0.heap.size) := by show _ < _; rw [hW, sz_alloc]; exact Nat.lt_succ_self _
  have P := Lib.hid (pend_c S w.heap.size l hS hl W0 ((R.out.cell 4).trans rfl) ((R.out.cell 5).trans rfl))
  have bl := pend_lt hS.out l
  have s3 := hS.out.u 3 (by decide)
  have N1 := u_andNot (pendN S l) (S 3) bl s3
  have N2 := u_and (pendN S l) (S 3) bl s3
  have n1 : Hid (pendN S l &&& (18446744073709551615 - S 3) < 18446744073709551616) := and_lt _ _ bl
  have n2 : Hid (pendN S l &&& S 3 < 18446744073709551616) := and_lt _ _ bl
  have RF : Hid (rdyF S l false true = rdyF S l false true) := rfl
  generalize hx : rdyF S l false true = FF at RF ⊢
  unfold rdyF at hx
  generalize pendN S l &&& (18446744073709551615 - S 3) = b1 at N1 n1 hx
  generalize pendN S l &&& S 3 = b2 at N2 n2 hx
  generalize pendN S l = b0 at P N1 N2
  have HX : Hid (FF = FF) := rfl
  simp only [cond_true, cond_false] at hx
  have HFF := Lib.hid hx
  have HW := Lib.hid hW
  have hw0 : Hid (0 < w.heap.size) := g_lt hG.out
  clear hW hS hl ht bl s3 hx RF HX hG
  go_enter Tryd.func13, Tryd.ntmps13
  go_wp2_with fail
  refine (PT.out _).mono ?_; rintro e w1 ⟨rfl, h⟩; replace h := h.symm; subst h
  go_wp2_with fail
  rw [show w.alloc (Obj.cells (cs S) 26) = W0 from HW.out.symm]
  refine P.out.mono ?_; rintro e w1 ⟨rfl, hb⟩
  have ST : Hid (Stand w w1.heap.size S zF (w1.alloc (Obj.cells (r12 zF) 54))) :=
    ⟨(below_step hb HB.out HB.out.size).alloc (Nat.le_trans (Nat.le_of_lt hz.out) hb.size) _, row_old (R.out.below hb hz.out) _, row_new _ _ _, Nat.lt_of_lt_of_le hz.out hb.size, by rw [sz_alloc]; exact Nat.lt_succ_self _, g_alloc (g_below HG.out hb (g_lt HG.out)) _, hw0.out⟩
  obtain ⟨W2, hW2⟩ : ∃ W2, W2 = w1.alloc (Obj.cells (r12 zF) 54) := ⟨_, rfl⟩
  rw [← hW2] at ST
  have HW2 := Lib.hid hW2
  have c0 : w1.cell? ⟨w.heap.size, 0, none⟩ = some (.int .u64 (S 0 : Nat)) := ((R.out.below hb hz.out).cell 0).trans rfl
  have c1 : w.heap.size < w1.heap.size := Nat.lt_of_lt_of_le hz.out hb.size
  have c2 : ¬ w.heap.size = w1.heap.size := Nat.ne_of_lt c1
  clear hb P HB HG R hz HW hw0 hW2 PT
  obtain ⟨rb, hrb⟩ : ∃ rb, rb = w1.heap.size := ⟨_, rfl⟩
  have HRB := Lib.hid hrb
  rw [← hrb] at ST
  clear hrb
  go_wp2_with fail
  refine (HM.out _).mono ?_; rintro e w2 ⟨rfl, hb⟩
  rw [show w1.alloc (Obj.cells #[.int .u64 0, .int .u64 0, .int .u64 0, .int .u64 0, .int .u64 0, .int .u64 0, .int .u64 0, .int .u64 0, .int .u64 0, .int .u64 0, .int .u64 0, .int .u64 0] 54) = W2 from HW2.out.symm] at hb
  replace ST := Lib.hid (ST.out.below hb)
  clear hb c0 c1 c2
  have d0 : w2.cell? ⟨w.heap.size, 0, none⟩ = some (.int .u64 (S 0 : Nat)) := (ST.out.2.1.cell 0).trans rfl
  have d3 : w2.cell? ⟨w.heap.size, 3, none⟩ = some (.int .u64 (S 3 : Nat)) := (ST.out.2.1.cell 3).trans rfl
  go_wp2_with fail
  refine (HS.out _).mono ?_; rintro e w4 ⟨rfl, hb⟩
  replace ST := Lib.hid (ST.out.below hb)
  clear hb d0 d3
  have d0 : w4.cell? ⟨w.heap.size, 0, none⟩ = some (.int .u64 (S 0 : Nat)) := (ST.out.2.1.cell 0).trans rfl
  have d3 : w4.cell? ⟨w.heap.size, 3, none⟩ = some (.int .u64 (S 3 : Nat)) := (ST.out.2.1.cell 3).trans rfl
  go_wp2_with fail
  try rw [show w1.heap.size = rb from HRB.out.symm]
  refine (lay_6 rb b2 zF n2 w4 (by show _ ≠ _; have := ST.out.2.2.2.1; omega) ST.out.2.2.2.2.2.1 ST.out.2.2.1).mono ?_; rintro e w5 ⟨rfl, hr, hg⟩
  replace ST := Lib.hid (ST.out.lay hr hg)
  clear hr hg d0 d3
  go_wp2_with fail
  try rw [show w1.heap.size = rb from HRB.out.symm]
  refine (first_c rb (layN zF 6 b2 6) w5 ST.out.2.2.1).mono ?_; rintro e w9 ⟨v, b, rfl, hf, rfl⟩
  have HF := Lib.hid hf
  clear hf
  go_wp2_with fail
  refine bodyPost_ret (by simp [results, Tryd.results13, go_sem] <;> (first | rfl | (repeat' (first | rfl | apply And.intro)))) rfl ?_
  exact ⟨v, b, rfl, by rw [← HFF.out]; exact HF.out, ST.out.1⟩
set_option maxRecDepth 100000 in
set_option maxHeartbeats 1000000 in
theorem pending_true_false (S : Nat → Nat) (m t : Int) (l : Nat) (hS : Hid (OkS S)) (hl : Hid (l < 18446744073709551616)) (ht : tkI m = t)
    (HM : Hid (∀ u, Calls Tryd.prog 26 #[.int .u64 (S 0 : Nat), .int .i64 t, .int .i64 3] u (RetB true u))) (HS : Hid (∀ u, Calls Tryd.prog 26 #[.int .u64 (S 0 : Nat), .int .i64 t, .int .i64 1] u (RetB false u)))
    (w : World) (hG : Hid (G w)) : Calls Tryd.prog 13 #[.agg (cs S), .int .i64 m, .int .u64 l] w (RetPd (rdyF S l true false) w) := by
  have PT : Hid (∀ u, Calls Tryd.prog 15 #[.int .i64 m] u (RetIX t u)) := fun u => by have := taken_c m u; rw [ht] at this; exact this
  obtain ⟨W0, hW⟩ : ∃ W0, W0 = w.alloc (Obj.cells (cs S) 26) := ⟨_, rfl⟩
  have R : Hid (Row W0 w.heap.size 26 (cs S)) := by show Row _ _ _ _; rw [hW]; exact row_new _ _ _
  have HB : Hid (Below w.heap.size w W0) := by show Below _ _ _; rw [hW]; exact (by repeat (first | (with_reducible first | exact Below.refl _ _ | assumption | exact Nat.le_refl _ | refine Below.drew ?_ | refine Below.alloc ?_ ?_ _ | refine Below.setCell ?_ ?_ _ | refine le_alloc ?_ | refine le_set ?_ | refine le_drew ?_ | refine below_step (by assumption) ?_ ?_ | refine le_below (by assumption) ?_) | (dsimp only; omega)))
  have HG : Hid (G W0) := by show G _; rw [hW]; exact g_alloc hG.out _
  have hz : Hid (w.heap.size < W0.heap.size) := by show _ < _; rw [hW, sz_alloc]; exact Nat.lt_succ_self _
  have P := Lib.hid (pend_c S w.heap.size l hS hl W0 ((R.out.cell 4).trans rfl) ((R.out.cell 5).trans rfl))
  have bl := pend_lt hS.out l
  have s3 := hS.out.u 3 (by decide)
  have N1 := u_andNot (pendN S l) (S 3) bl s3
  have N2 := u_and (pendN S l) (S 3) bl s3
  have n1 : Hid (pendN S l &&& (18446744073709551615 - S 3) < 18446744073709551616) := and_lt _ _ bl
  have n2 : Hid (pendN S l &&& S 3 < 18446744073709551616) := and_lt _ _ bl
  have RF : Hid (rdyF S l true false = rdyF S l true false) := rfl
  generalize hx : rdyF S l true false = FF at RF ⊢
  unfold rdyF at hx
  generalize pendN S l &&& (18446744073709551615 - S 3) = b1 at N1 n1 hx
  generalize pendN S l &&& S 3 = b2 at N2 n2 hx
  generalize pendN S l = b0 at P N1 N2
  have HX : Hid (FF = FF) := rfl
  simp only [cond_true, cond_false] at hx
  have HFF := Lib.hid hx
  have HW := Lib.hid hW
  have hw0 : Hid (0 < w.heap.size) := g_lt hG.out
  clear hW hS hl ht bl s3 hx RF HX hG
  go_enter Tryd.func13, Tryd.ntmps13
  go_wp2_with fail
  refine (PT.out _).mono ?_; rintro e w1 ⟨rfl, h⟩; replace h := h.symm; subst h
  go_wp2_with fail
  rw [show w.alloc (Obj.cells (cs S) 26) = W0 from HW.out.symm]
  refine P.out.mono ?_; rintro e w1 ⟨rfl, hb⟩
  have ST : Hid (Stand w w1.heap.size S zF (w1.alloc (Obj.cells (r12 zF) 54))) :=
    ⟨(below_step hb HB.out HB.out.size).alloc (Nat.le_trans (Nat.le_of_lt hz.out) hb.size) _, row_old (R.out.below hb hz.out) _, row_new _ _ _, Nat.lt_of_lt_of_le hz.out hb.size, by rw [sz_alloc]; exact Nat.lt_succ_self _, g_alloc (g_below HG.out hb (g_lt HG.out)) _, hw0.out⟩
  obtain ⟨W2, hW2⟩ : ∃ W2, W2 = w1.alloc (Obj.cells (r12 zF) 54) := ⟨_, rfl⟩
  rw [← hW2] at ST
  have HW2 := Lib.hid hW2
  have c0 : w1.cell? ⟨w.heap.size, 0, none⟩ = some (.int .u64 (S 0 : Nat)) := ((R.out.below hb hz.out).cell 0).trans rfl
  have c1 : w.heap.size < w1.heap.size := Nat.lt_of_lt_of_le hz.out hb.size
  have c2 : ¬ w.heap.size = w1.heap.size := Nat.ne_of_lt c1
  clear hb P HB HG R hz HW hw0 hW2 PT
  obtain ⟨rb, hrb⟩ : ∃ rb, rb = w1.heap.size := ⟨_, rfl⟩
  have HRB := Lib.hid hrb
  rw [← hrb] at ST
  clear hrb
  go_wp2_with fail
  refine (HM.out _).mono ?_; rintro e w2 ⟨rfl, hb⟩
  rw [show w1.alloc (Obj.cells #[.int .u64 0, .int .u64 0, .int .u64 0, .int .u64 0, .int .u64 0, .int .u64 0, .int .u64 0, .int .u64 0, .int .u64 0, .int .u64 0, .int .u64 0, .int .u64 0] 54) = W2 from HW2.out.symm] at hb
  replace ST := Lib.hid (ST.out.below hb)
  clear hb c0 c1 c2
  have d0 : w2.cell? ⟨w.heap.size, 0, none⟩ = some (.int .u64 (S 0 : Nat)) := (ST.out.2.1.cell 0).trans rfl
  have d3 : w2.cell? ⟨w.heap.size, 3, none⟩ = some (.int .u64 (S 3 : Nat)) := (ST.out.2.1.cell 3).trans rfl
  go_wp2_with fail
  try rw [show w1.heap.size = rb from HRB.out.symm]
  refine (lay_0 rb b1 zF n1 w2 (by show _ ≠ _; have := ST.out.2.2.2.1; omega) ST.out.2.2.2.2.2.1 ST.out.2.2.1).mono ?_; rintro e w3 ⟨rfl, hr, hg⟩
  replace ST := Lib.hid (ST.out.lay hr hg)
  clear hr hg d0 d3
  have d0 : w3.cell? ⟨w.heap.size, 0, none⟩ = some (.int .u64 (S 0 : Nat)) := (ST.out.2.1.cell 0).trans rfl
  have d3 : w3.cell? ⟨w.heap.size, 3, none⟩ = some (.int .u64 (S 3 : Nat)) := (ST.out.2.1.cell 3).trans rfl
  go_wp2_with fail
  refine (HS.out _).mono ?_; rintro e w4 ⟨rfl, hb⟩
  replace ST := Lib.hid (ST.out.below hb)
  clear hb d0 d3
  have d0 : w4.cell? ⟨w.heap.size, 0, none⟩ = some (.int .u64 (S 0 : Nat)) := (ST.out.2.1.cell 0).trans rfl
  have d3 : w4.cell? ⟨w.heap.size, 3, none⟩ = some (.int .u64 (S 3 : Nat)) := (ST.out.2.1.cell 3).trans rfl
  go_wp2_with fail
  try rw [show w1.heap.size = rb from HRB.out.symm]
  refine (first_c rb (layN zF 0 b1 6) w4 ST.out.2.2.1).mono ?_; rintro e w9 ⟨v, b, rfl, hf, rfl⟩
  have HF := Lib.hid hf
  clear hf
  go_wp2_with fail
  refine bodyPost_ret (by simp [results, Tryd.results13, go_sem] <;> (first | rfl | (repeat' (first | rfl | apply And.intro)))) rfl ?_
  exact ⟨v, b, rfl, by rw [← HFF.out]; exact HF.out, ST.out.1⟩
set_option maxRecDepth 100000 in
set_option maxHeartbeats 1000000 in
theorem pending_true_true (S : Nat → Nat) (m t : Int) (l : Nat) (hS : Hid (OkS S)) (hl : Hid (l < 18446744073709551616)) (ht : tkI m = t)
    (HM : Hid (∀ u, Calls Tryd.prog 26 #[.int .u64 (S 0 : Nat), .int .i64 t, .int .i64 3] u (RetB true u))) (HS : Hid (∀ u, Calls Tryd.prog 26 #[.int .u64 (S 0 : Nat), .int .i64 t, .int .i64 1] u (RetB true u)))
    (w : World) (hG : Hid (G w)) : Calls Tryd.prog 13 #[.agg (cs S), .int .i64 m, .int .u64 l] w (RetPd (rdyF S l true true) w) := by
  have PT : Hid (∀ u, Calls Tryd.prog 15 #[.int .i64 m] u (RetIX t u)) := fun u => by have := taken_c m u; rw [ht] at this; exact this
  obtain ⟨W0, hW⟩ : ∃ W0, W0 = w.alloc (Obj.cells (cs S) 26) := ⟨_, rfl⟩
  have R : Hid (Row W0 w.heap.size 26 (cs S)) := by show Row _ _ _ _; rw [hW]; exact row_new _ _ _
  have HB : Hid (Below w.heap.size w W0) := by show Below _ _ _; rw [hW]; exact (by repeat (first | (with_reducible first | exact Below.refl _ _ | assumption | exact Nat.le_refl _ | refine Below.drew ?_ | refine Below.alloc ?_ ?_ _ | refine Below.setCell ?_ ?_ _ | refine le_alloc ?_ | refine le_set ?_ | refine le_drew ?_ | refine below_step (by assumption) ?_ ?_ | refine le_below (by assumption) ?_) | (dsimp only; omega)))
  have HG : Hid (G W0) := by show G _; rw [hW]; exact g_alloc hG.out _
  have hz : Hid (w.heap.size < W0.heap.size) := by show _ < _; rw [hW, sz_alloc]; exact Nat.lt_succ_self _
  have P := Lib.hid (pend_c S w.heap.size l hS hl W0 ((R.out.cell 4).trans rfl) ((R.out.cell 5).trans rfl))
  have bl := pend_lt hS.out l
  have s3 := hS.out.u 3 (by decide)
  have N1 := u_andNot (pendN S l) (S 3) bl s3
  have N2 := u_and (pendN S l) (S 3) bl s3
  have n1 : Hid (pendN S l &&& (18446744073709551615 - S 3) < 18446744073709551616) := and_lt _ _ bl
  have n2 : Hid (pendN S l &&& S 3 < 18446744073709551616) := and_lt _ _ bl
  have RF : Hid (rdyF S l true true = rdyF S l true true) := rfl
  generalize hx : rdyF S l true true = FF at RF ⊢
  unfold rdyF at hx
  generalize pendN S l &&& (18446744073709551615 - S 3) = b1 at N1 n1 hx
  generalize pendN S l &&& S 3 = b2 at N2 n2 hx
  generalize pendN S l = b0 at P N1 N2
  have HX : Hid (FF = FF) := rfl
  simp only [cond_true, cond_false] at hx
  have HFF := Lib.hid hx
  have HW := Lib.hid hW
  have hw0 : Hid (0 < w.heap.size) := g_lt hG.out
  clear hW hS hl ht bl s3 hx RF HX hG
  go_enter Tryd.func13, Tryd.ntmps13
  go_wp2_with fail
  refine (PT.out _).mono ?_; rintro e w1 ⟨rfl, h⟩; replace h := h.symm; subst h
  go_wp2_with fail
  rw [show w.alloc (Obj.cells (cs S) 26) = W0 from HW.out.symm]
  refine P.out.mono ?_; rintro e w1 ⟨rfl, hb⟩
  have ST : Hid (Stand w w1.heap.size S zF (w1.alloc (Obj.cells (r12 zF) 54))) :=
    ⟨(below_step hb HB.out HB.out.size).alloc (Nat.le_trans (Nat.le_of_lt hz.out) hb.size) _, row_old (R.out.below hb hz.out) _, row_new _ _ _, Nat.lt_of_lt_of_le hz.out hb.size, by rw [sz_alloc]; exact Nat.lt_succ_self _, g_alloc (g_below HG.out hb (g_lt HG.out)) _, hw0.out⟩
  obtain ⟨W2, hW2⟩ : ∃ W2, W2 = w1.alloc (Obj.cells (r12 zF) 54) := ⟨_, rfl⟩
  rw [← hW2] at ST
  have HW2 := Lib.hid hW2
  have c0 : w1.cell? ⟨w.heap.size, 0, none⟩ = some (.int .u64 (S 0 : Nat)) := ((R.out.below hb hz.out).cell 0).trans rfl
  have c1 : w.heap.size < w1.heap.size := Nat.lt_of_lt_of_le hz.out hb.size
  have c2 : ¬ w.heap.size = w1.heap.size := Nat.ne_of_lt c1
  clear hb P HB HG R hz HW hw0 hW2 PT
  obtain ⟨rb, hrb⟩ : ∃ rb, rb = w1.heap.size := ⟨_, rfl⟩
  have HRB := Lib.hid hrb
  rw [← hrb] at ST
  clear hrb
  go_wp2_with fail
  refine (HM.out _).mono ?_; rintro e w2 ⟨rfl, hb⟩
  rw [show w1.alloc (Obj.cells #[.int .u64 0, .int .u64 0, .int .u64 0, .int .u64 0, .int .u64 0, .int .u64 0, .int .u64 0, .int .u64 0, .int .u64 0, .int .u64 0, .int .u64 0, .int .u64 0] 54) = W2 from HW2.out.symm] at hb
  replace ST := Lib.hid (ST.out.below hb)
  clear hb c0 c1 c2
  have d0 : w2.cell? ⟨w.heap.size, 0, none⟩ = some (.int .u64 (S 0 : Nat)) := (ST.out.2.1.cell 0).trans rfl
  have d3 : w2.cell? ⟨w.heap.size, 3, none⟩ = some (.int .u64 (S 3 : Nat)) := (ST.out.2.1.cell 3).trans rfl
  go_wp2_with fail
  try rw [show w1.heap.size = rb from HRB.out.symm]
  refine (lay_0 rb b1 zF n1 w2 (by show _ ≠ _; have := ST.out.2.2.2.1; omega) ST.out.2.2.2.2.2.1 ST.out.2.2.1).mono ?_; rintro e w3 ⟨rfl, hr, hg⟩
  replace ST := Lib.hid (ST.out.lay hr hg)
  clear hr hg d0 d3
  have d0 : w3.cell? ⟨w.heap.size, 0, none⟩ = some (.int .u64 (S 0 : Nat)) := (ST.out.2.1.cell 0).trans rfl
  have d3 : w3.cell? ⟨w.heap.size, 3, none⟩ = some (.int .u64 (S 3 : Nat)) := (ST.out.2.1.cell 3).trans rfl
  go_wp2_with fail
  refine (HS.out _).mono ?_; rintro e w4 ⟨rfl, hb⟩
  replace ST := Lib.hid (ST.out.below hb)
  clear hb d0 d3
  have d0 : w4.cell? ⟨w.heap.size, 0, none⟩ = some (.int .u64 (S 0 : Nat)) := (ST.out.2.1.cell 0).trans rfl
  have d3 : w4.cell? ⟨w.heap.size, 3, none⟩ = some (.int .u64 (S 3 : Nat)) := (ST.out.2.1.cell 3).trans rfl
  go_wp2_with fail
  try rw [show w1.heap.size = rb from HRB.out.symm]
  refine (lay_6 rb b2 (layN zF 0 b1 6) n2 w4 (by show _ ≠ _; have := ST.out.2.2.2.1; omega) ST.out.2.2.2.2.2.1 ST.out.2.2.1).mono ?_; rintro e w5 ⟨rfl, hr, hg⟩
  replace ST := Lib.hid (ST.out.lay hr hg)
  clear hr hg d0 d3
  go_wp2_with fail
  try rw [show w1.heap.size = rb from HRB.out.symm]
  refine (first_c rb (layN (layN zF 0 b1 6) 6 b2 6) w5 ST.out.2.2.1).mono ?_; rintro e w9 ⟨v, b, rfl, hf, rfl⟩
  have HF := Lib.hid hf
  clear hf
  go_wp2_with fail
  refine bodyPost_ret (by simp [results, Tryd.results13, go_sem] <;> (first | rfl | (repeat' (first | rfl | apply And.intro)))) rfl ?_
  exact ⟨v, b, rfl, by rw [← HFF.out]; exact HF.out, ST.out.1⟩
end Go.Proofs.YteeifdmnagbjeaaDoor
