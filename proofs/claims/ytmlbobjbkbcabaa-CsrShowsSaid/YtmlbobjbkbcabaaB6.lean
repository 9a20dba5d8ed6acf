/- May. -/
import Derived.Test.YtmlbobjbkbcabaaB5
namespace Go.Proofs.Ytmlbobjbkbcabaa
open Go.ChangeShapes Go.WideShapes Go.ChangeAt Go.RowKit P
set_option linter.unusedVariables false
set_option linter.unusedSimpArgs false
set_option maxRecDepth 100000 in
theorem may_no_there (S : Nat → Nat) (mode n : Int) (write : Bool) (hS : Hid (OkS S)) (ht : Hid (thereB n = false)) (w : World) : Calls Try.prog 12 #[.agg (cs S), .int .i64 mode, .int .i64 n, .bool write] w (RetB (mayF S mode n write) w) := by
  have R : Hid (Row (w.alloc (Obj.cells (cs S) 26)) w.heap.size 26 (cs S)) := row_new _ _ _
  have HB : Hid (Below w.heap.size w (w.alloc (Obj.cells (cs S) 26))) := by show Below _ _ _; exact (by repeat (first | (with_reducible first | exact Below.refl _ _ | assumption | exact Nat.le_refl _ | refine Below.drew ?_ | refine Below.alloc ?_ ?_ _ | refine Below.setCell ?_ ?_ _ | refine le_alloc ?_ | refine le_set ?_ | refine le_drew ?_ | refine below_step (by assumption) ?_ ?_ | refine le_below (by assumption) ?_) | (dsimp only; omega)))
  have HT := Lib.hid (fun u => taken_c mode u)
  have HL := Lib.hid (fun u hu => look_c w.heap.size S n 0 0 hS (by show _ < _; decide) u hu)
  have HLo := Lib.hid (fun u => lowest_c n u)
  have HF := Lib.hid (fun u => readOnly_c n u)
  have HM : Hid (mayF S mode n write = if noB (takenN mode) n write = true then false else moreB S (takenN mode) n) := rfl
  obtain ⟨m, hm⟩ : ∃ m, takenN mode = m := ⟨_, rfl⟩
  obtain ⟨x, hx⟩ : ∃ x, rdF S n 0 0 = x := ⟨_, rfl⟩
  rw [hm] at HT HM
  rw [hx] at HL
  clear hx
  rw [ht.out] at HL
  replace HM : Hid (mayF S mode n write = false) := by show _ = _; rw [HM.out]; unfold noB; rw [ht.out]; rfl
  clear ht hm
  go_enter Try.func12, Try.ntmps12
  go_wp2_with fail
  refine (HT.out _).mono ?_; rintro e w9 ⟨rfl, h⟩; replace h := h.symm; subst h
  go_wp2_with fail
  refine (HL.out _ R.out).mono ?_; rintro e w2 ⟨rfl, hb⟩
  replace R := Lib.hid (R.out.below hb (by rw [sz_alloc]; omega))
  replace HB := Lib.hid (below_step hb HB.out HB.out.size)
  clear hb HL
  go_wp2_with fail
  go_ret
  exact retB_mk (by rw [HM.out]) HB.out
set_option maxRecDepth 100000 in
theorem may_no_low (S : Nat → Nat) (mode n : Int) (write : Bool) (hS : Hid (OkS S)) (ht : Hid (thereB n = true)) (hlo : Hid (takenN mode < lowI n)) (w : World) : Calls Try.prog 12 #[.agg (cs S), .int .i64 mode, .int .i64 n, .bool write] w (RetB (mayF S mode n write) w) := by
  have R : Hid (Row (w.alloc (Obj.cells (cs S) 26)) w.heap.size 26 (cs S)) := row_new _ _ _
  have HB : Hid (Below w.heap.size w (w.alloc (Obj.cells (cs S) 26))) := by show Below _ _ _; exact (by repeat (first | (with_reducible first | exact Below.refl _ _ | assumption | exact Nat.le_refl _ | refine Below.drew ?_ | refine Below.alloc ?_ ?_ _ | refine Below.setCell ?_ ?_ _ | refine le_alloc ?_ | refine le_set ?_ | refine le_drew ?_ | refine below_step (by assumption) ?_ ?_ | refine le_below (by assumption) ?_) | (dsimp only; omega)))
  have HT := Lib.hid (fun u => taken_c mode u)
  have HL := Lib.hid (fun u hu => look_c w.heap.size S n 0 0 hS (by show _ < _; decide) u hu)
  have HLo := Lib.hid (fun u => lowest_c n u)
  have HF := Lib.hid (fun u => readOnly_c n u)
  have HM : Hid (mayF S mode n write = if noB (takenN mode) n write = true then false else moreB S (takenN mode) n) := rfl
  obtain ⟨m, hm⟩ : ∃ m, takenN mode = m := ⟨_, rfl⟩
  obtain ⟨x, hx⟩ : ∃ x, rdF S n 0 0 = x := ⟨_, rfl⟩
  rw [hm] at HT HM
  rw [hx] at HL
  clear hx
  rw [ht.out] at HL
  have hlo' := hlo.out
  rw [hm] at hlo'
  replace HM : Hid (mayF S mode n write = false) := by show _ = _; rw [HM.out]; unfold noB; rw [ht.out, show decide (m < lowI n) = true from decide_eq_true hlo']; rfl
  obtain ⟨lo, hlo2⟩ : ∃ lo, lowI n = lo := ⟨_, rfl⟩
  rw [hlo2] at HLo hlo'
  clear ht hm hlo hlo2
  go_enter Try.func12, Try.ntmps12
  go_wp2_with fail
  refine (HT.out _).mono ?_; rintro e w9 ⟨rfl, h⟩; replace h := h.symm; subst h
  go_wp2_with fail
  refine (HL.out _ R.out).mono ?_; rintro e w2 ⟨rfl, hb⟩
  replace R := Lib.hid (R.out.below hb (by rw [sz_alloc]; omega))
  replace HB := Lib.hid (below_step hb HB.out HB.out.size)
  clear hb HL
  go_wp2_with fail
  refine (HLo.out _).mono ?_; rintro e w9 ⟨rfl, h⟩; replace h := h.symm; subst h
  go_wp2_with fail
  go_ret
  exact retB_mk (by rw [HM.out]) HB.out
set_option maxRecDepth 100000 in
theorem may_no_write (S : Nat → Nat) (mode n : Int) (write : Bool) (hS : Hid (OkS S)) (ht : Hid (thereB n = true)) (hlo : Hid (¬ takenN mode < lowI n)) (hw : Hid (write = true)) (hf : Hid (fixB n = true)) (w : World) : Calls Try.prog 12 #[.agg (cs S), .int .i64 mode, .int .i64 n, .bool write] w (RetB (mayF S mode n write) w) := by
  have R : Hid (Row (w.alloc (Obj.cells (cs S) 26)) w.heap.size 26 (cs S)) := row_new _ _ _
  have HB : Hid (Below w.heap.size w (w.alloc (Obj.cells (cs S) 26))) := by show Below _ _ _; exact (by repeat (first | (with_reducible first | exact Below.refl _ _ | assumption | exact Nat.le_refl _ | refine Below.drew ?_ | refine Below.alloc ?_ ?_ _ | refine Below.setCell ?_ ?_ _ | refine le_alloc ?_ | refine le_set ?_ | refine le_drew ?_ | refine below_step (by assumption) ?_ ?_ | refine le_below (by assumption) ?_) | (dsimp only; omega)))
  have HT := Lib.hid (fun u => taken_c mode u)
  have HL := Lib.hid (fun u hu => look_c w.heap.size S n 0 0 hS (by show _ < _; decide) u hu)
  have HLo := Lib.hid (fun u => lowest_c n u)
  have HF := Lib.hid (fun u => readOnly_c n u)
  have HM : Hid (mayF S mode n write = if noB (takenN mode) n write = true then false else moreB S (takenN mode) n) := rfl
  obtain ⟨m, hm⟩ : ∃ m, takenN mode = m := ⟨_, rfl⟩
  obtain ⟨x, hx⟩ : ∃ x, rdF S n 0 0 = x := ⟨_, rfl⟩
  rw [hm] at HT HM
  rw [hx] at HL
  clear hx
  obtain rfl := hw.out
  rw [ht.out] at HL
  rw [hf.out] at HF
  have hlo' := hlo.out
  rw [hm] at hlo'
  replace HM : Hid (mayF S mode n true = false) := by show _ = _; rw [HM.out]; unfold noB; rw [ht.out, hf.out]; simp
  obtain ⟨lo, hlo2⟩ : ∃ lo, lowI n = lo := ⟨_, rfl⟩
  rw [hlo2] at HLo hlo'
  clear ht hm hlo hlo2 hf hw
  go_enter Try.func12, Try.ntmps12
  go_wp2_with fail
  refine (HT.out _).mono ?_; rintro e w9 ⟨rfl, h⟩; replace h := h.symm; subst h
  go_wp2_with fail
  refine (HL.out _ R.out).mono ?_; rintro e w2 ⟨rfl, hb⟩
  replace R := Lib.hid (R.out.below hb (by rw [sz_alloc]; omega))
  replace HB := Lib.hid (below_step hb HB.out HB.out.size)
  clear hb HL
  go_wp2_with fail
  refine (HLo.out _).mono ?_; rintro e w9 ⟨rfl, h⟩; replace h := h.symm; subst h
  go_wp2_with fail
  refine (HF.out _).mono ?_; rintro e w9 ⟨rfl, h⟩; replace h := h.symm; subst h
  go_wp2_with fail
  go_ret
  exact retB_mk (by rw [HM.out]) HB.out
set_option maxRecDepth 100000 in
theorem may_float_r (S : Nat → Nat) (mode n : Int) (write : Bool) (hS : Hid (OkS S)) (ht : Hid (thereB n = true)) (hlo : Hid (¬ takenN mode < lowI n)) (hw : Hid (write = false)) (h1 : Hid (inB n 1 3 = true)) (w : World) : Calls Try.prog 12 #[.agg (cs S), .int .i64 mode, .int .i64 n, .bool write] w (RetB (mayF S mode n write) w) := by
  have R : Hid (Row (w.alloc (Obj.cells (cs S) 26)) w.heap.size 26 (cs S)) := row_new _ _ _
  have HB : Hid (Below w.heap.size w (w.alloc (Obj.cells (cs S) 26))) := by show Below _ _ _; exact (by repeat (first | (with_reducible first | exact Below.refl _ _ | assumption | exact Nat.le_refl _ | refine Below.drew ?_ | refine Below.alloc ?_ ?_ _ | refine Below.setCell ?_ ?_ _ | refine le_alloc ?_ | refine le_set ?_ | refine le_drew ?_ | refine below_step (by assumption) ?_ ?_ | refine le_below (by assumption) ?_) | (dsimp only; omega)))
  have HT := Lib.hid (fun u => taken_c mode u)
  have HL := Lib.hid (fun u hu => look_c w.heap.size S n 0 0 hS (by show _ < _; decide) u hu)
  have HLo := Lib.hid (fun u => lowest_c n u)
  have HF := Lib.hid (fun u => readOnly_c n u)
  have HM : Hid (mayF S mode n write = if noB (takenN mode) n write = true then false else moreB S (takenN mode) n) := rfl
  obtain ⟨m, hm⟩ : ∃ m, takenN mode = m := ⟨_, rfl⟩
  obtain ⟨x, hx⟩ : ∃ x, rdF S n 0 0 = x := ⟨_, rfl⟩
  rw [hm] at HT HM
  rw [hx] at HL
  clear hx
  obtain rfl := hw.out
  rw [ht.out] at HL
  have hlo' := hlo.out
  rw [hm] at hlo'
  replace HM : Hid (mayF S mode n false = moreB S m n) := by show _ = _; rw [HM.out]; unfold noB; rw [ht.out, show decide (m < lowI n) = false from decide_eq_false hlo']; rfl
  obtain ⟨lo, hlo2⟩ : ∃ lo, lowI n = lo := ⟨_, rfl⟩
  rw [hlo2] at HLo hlo'
  clear ht hlo hlo2 hw
  have HFl := Lib.hid (fun u => isOfFloats_c n u)
  rw [h1.out] at HFl
  replace HM : Hid (mayF S mode n false = !((S 0 &&& 24576) == 0)) := by show _ = _; rw [HM.out]; unfold moreB; rw [h1.out]; rfl
  have a1 : bits .and .u64 (S 0 : Int) 24576 = ((S 0 &&& 24576 : Nat) : Int) := u_and (S 0) 24576 (hS.out.u 0 (by decide)) (by decide)
  have b1 := Lib.hid (cast_beq (S 0 &&& 24576) 0)
  obtain ⟨y, hy⟩ : ∃ y, S 0 &&& 24576 = y := ⟨_, rfl⟩
  rw [hy] at a1 HM b1
  clear hy h1 hm
  go_enter Try.func12, Try.ntmps12
  go_wp2_with fail
  refine (HT.out _).mono ?_; rintro e w9 ⟨rfl, h⟩; replace h := h.symm; subst h
  go_wp2_with fail
  refine (HL.out _ R.out).mono ?_; rintro e w2 ⟨rfl, hb⟩
  replace R := Lib.hid (R.out.below hb (by rw [sz_alloc]; omega))
  replace HB := Lib.hid (below_step hb HB.out HB.out.size)
  clear hb HL
  go_wp2_with fail
  refine (HLo.out _).mono ?_; rintro e w9 ⟨rfl, h⟩; replace h := h.symm; subst h
  go_wp2_with fail
  refine (HFl.out _).mono ?_; rintro e w9 ⟨rfl, h⟩; replace h := h.symm; subst h
  have c0 : w9.cell? ⟨w.heap.size, 0, none⟩ = some (.int .u64 (S 0 : Nat)) := R.out.cell 0
  go_wp2_with fail
  go_ret
  exact retB_mk (by rw [HM.out, ← b1.out]; rfl) HB.out
set_option maxRecDepth 100000 in
theorem may_float_w (S : Nat → Nat) (mode n : Int) (write : Bool) (hS : Hid (OkS S)) (ht : Hid (thereB n = true)) (hlo : Hid (¬ takenN mode < lowI n)) (hw : Hid (write = true)) (hf : Hid (fixB n = false)) (h1 : Hid (inB n 1 3 = true)) (w : World) : Calls Try.prog 12 #[.agg (cs S), .int .i64 mode, .int .i64 n, .bool write] w (RetB (mayF S mode n write) w) := by
  have R : Hid (Row (w.alloc (Obj.cells (cs S) 26)) w.heap.size 26 (cs S)) := row_new _ _ _
  have HB : Hid (Below w.heap.size w (w.alloc (Obj.cells (cs S) 26))) := by show Below _ _ _; exact (by repeat (first | (with_reducible first | exact Below.refl _ _ | assumption | exact Nat.le_refl _ | refine Below.drew ?_ | refine Below.alloc ?_ ?_ _ | refine Below.setCell ?_ ?_ _ | refine le_alloc ?_ | refine le_set ?_ | refine le_drew ?_ | refine below_step (by assumption) ?_ ?_ | refine le_below (by assumption) ?_) | (dsimp only; omega)))
  have HT := Lib.hid (fun u => taken_c mode u)
  have HL := Lib.hid (fun u hu => look_c w.heap.size S n 0 0 hS (by show _ < _; decide) u hu)
  have HLo := Lib.hid (fun u => lowest_c n u)
  have HF := Lib.hid (fun u => readOnly_c n u)
  have HM : Hid (mayF S mode n write = if noB (takenN mode) n write = true then false else moreB S (takenN mode) n) := rfl
  obtain ⟨m, hm⟩ : ∃ m, takenN mode = m := ⟨_, rfl⟩
  obtain ⟨x, hx⟩ : ∃ x, rdF S n 0 0 = x := ⟨_, rfl⟩
  rw [hm] at HT HM
  rw [hx] at HL
  clear hx
  obtain rfl := hw.out
  rw [ht.out] at HL
  rw [hf.out] at HF
  have hlo' := hlo.out
  rw [hm] at hlo'
  replace HM : Hid (mayF S mode n true = moreB S m n) := by show _ = _; rw [HM.out]; unfold noB; rw [ht.out, show decide (m < lowI n) = false from decide_eq_false hlo', hf.out]; rfl
  obtain ⟨lo, hlo2⟩ : ∃ lo, lowI n = lo := ⟨_, rfl⟩
  rw [hlo2] at HLo hlo'
  clear ht hlo hlo2 hw hf
  have HFl := Lib.hid (fun u => isOfFloats_c n u)
  rw [h1.out] at HFl
  replace HM : Hid (mayF S mode n true = !((S 0 &&& 24576) == 0)) := by show _ = _; rw [HM.out]; unfold moreB; rw [h1.out]; rfl
  have a1 : bits .and .u64 (S 0 : Int) 24576 = ((S 0 &&& 24576 : Nat) : Int) := u_and (S 0) 24576 (hS.out.u 0 (by decide)) (by decide)
  have b1 := Lib.hid (cast_beq (S 0 &&& 24576) 0)
  obtain ⟨y, hy⟩ : ∃ y, S 0 &&& 24576 = y := ⟨_, rfl⟩
  rw [hy] at a1 HM b1
  clear hy h1 hm
  go_enter Try.func12, Try.ntmps12
  go_wp2_with fail
  refine (HT.out _).mono ?_; rintro e w9 ⟨rfl, h⟩; replace h := h.symm; subst h
  go_wp2_with fail
  refine (HL.out _ R.out).mono ?_; rintro e w2 ⟨rfl, hb⟩
  replace R := Lib.hid (R.out.below hb (by rw [sz_alloc]; omega))
  replace HB := Lib.hid (below_step hb HB.out HB.out.size)
  clear hb HL
  go_wp2_with fail
  refine (HLo.out _).mono ?_; rintro e w9 ⟨rfl, h⟩; replace h := h.symm; subst h
  go_wp2_with fail
  refine (HF.out _).mono ?_; rintro e w9 ⟨rfl, h⟩; replace h := h.symm; subst h
  go_wp2_with fail
  refine (HFl.out _).mono ?_; rintro e w9 ⟨rfl, h⟩; replace h := h.symm; subst h
  have c0 : w9.cell? ⟨w.heap.size, 0, none⟩ = some (.int .u64 (S 0 : Nat)) := R.out.cell 0
  go_wp2_with fail
  go_ret
  exact retB_mk (by rw [HM.out, ← b1.out]; rfl) HB.out
set_option maxRecDepth 100000 in
theorem may_satp_m_r (S : Nat → Nat) (mode n : Int) (write : Bool) (hS : Hid (OkS S)) (ht : Hid (thereB n = true)) (hlo : Hid (¬ takenN mode < lowI n)) (hw : Hid (write = false)) (h1 : Hid (inB n 1 3 = false)) (h2 : Hid (n = 384)) (h3 : Hid (takenN mode = 3)) (w : World) : Calls Try.prog 12 #[.agg (cs S), .int .i64 mode, .int .i64 n, .bool write] w (RetB (mayF S mode n write) w) := by
  have R : Hid (Row (w.alloc (Obj.cells (cs S) 26)) w.heap.size 26 (cs S)) := row_new _ _ _
  have HB : Hid (Below w.heap.size w (w.alloc (Obj.cells (cs S) 26))) := by show Below _ _ _; exact (by repeat (first | (with_reducible first | exact Below.refl _ _ | assumption | exact Nat.le_refl _ | refine Below.drew ?_ | refine Below.alloc ?_ ?_ _ | refine Below.setCell ?_ ?_ _ | refine le_alloc ?_ | refine le_set ?_ | refine le_drew ?_ | refine below_step (by assumption) ?_ ?_ | refine le_below (by assumption) ?_) | (dsimp only; omega)))
  have HT := Lib.hid (fun u => taken_c mode u)
  have HL := Lib.hid (fun u hu => look_c w.heap.size S n 0 0 hS (by show _ < _; decide) u hu)
  have HLo := Lib.hid (fun u => lowest_c n u)
  have HF := Lib.hid (fun u => readOnly_c n u)
  have HM : Hid (mayF S mode n write = if noB (takenN mode) n write = true then false else moreB S (takenN mode) n) := rfl
  obtain ⟨m, hm⟩ : ∃ m, takenN mode = m := ⟨_, rfl⟩
  obtain ⟨x, hx⟩ : ∃ x, rdF S n 0 0 = x := ⟨_, rfl⟩
  rw [hm] at HT HM
  rw [hx] at HL
  clear hx
  obtain rfl := hw.out
  rw [ht.out] at HL
  have hlo' := hlo.out
  rw [hm] at hlo'
  replace HM : Hid (mayF S mode n false = moreB S m n) := by show _ = _; rw [HM.out]; unfold noB; rw [ht.out, show decide (m < lowI n) = false from decide_eq_false hlo']; rfl
  obtain ⟨lo, hlo2⟩ : ∃ lo, lowI n = lo := ⟨_, rfl⟩
  rw [hlo2] at HLo hlo'
  clear ht hlo hlo2 hw
  have HFl := Lib.hid (fun u => isOfFloats_c n u)
  have h3' := h3.out; rw [hm] at h3'; subst h3'
  rw [h1.out] at HFl
  obtain rfl := h2.out
  replace HM : Hid (mayF S mode 384 false = true) := by show _ = _; rw [HM.out]; rfl
  clear h1 h2 h3 hm
  go_enter Try.func12, Try.ntmps12
  go_wp2_with fail
  refine (HT.out _).mono ?_; rintro e w9 ⟨rfl, h⟩; replace h := h.symm; subst h
  go_wp2_with fail
  refine (HL.out _ R.out).mono ?_; rintro e w2 ⟨rfl, hb⟩
  replace R := Lib.hid (R.out.below hb (by rw [sz_alloc]; omega))
  replace HB := Lib.hid (below_step hb HB.out HB.out.size)
  clear hb HL
  go_wp2_with fail
  refine (HLo.out _).mono ?_; rintro e w9 ⟨rfl, h⟩; replace h := h.symm; subst h
  go_wp2_with fail
  refine (HFl.out _).mono ?_; rintro e w9 ⟨rfl, h⟩; replace h := h.symm; subst h
  go_wp2_with fail
  go_ret
  exact retB_mk (by rw [HM.out]) HB.out
set_option maxRecDepth 100000 in
theorem may_satp_m_w (S : Nat → Nat) (mode n : Int) (write : Bool) (hS : Hid (OkS S)) (ht : Hid (thereB n = true)) (hlo : Hid (¬ takenN mode < lowI n)) (hw : Hid (write = true)) (hf : Hid (fixB n = false)) (h1 : Hid (inB n 1 3 = false)) (h2 : Hid (n = 384)) (h3 : Hid (takenN mode = 3)) (w : World) : Calls Try.prog 12 #[.agg (cs S), .int .i64 mode, .int .i64 n, .bool write] w (RetB (mayF S mode n write) w) := by
  have R : Hid (Row (w.alloc (Obj.cells (cs S) 26)) w.heap.size 26 (cs S)) := row_new _ _ _
  have HB : Hid (Below w.heap.size w (w.alloc (Obj.cells (cs S) 26))) := by show Below _ _ _; exact (by repeat (first | (with_reducible first | exact Below.refl _ _ | assumption | exact Nat.le_refl _ | refine Below.drew ?_ | refine Below.alloc ?_ ?_ _ | refine Below.setCell ?_ ?_ _ | refine le_alloc ?_ | refine le_set ?_ | refine le_drew ?_ | refine below_step (by assumption) ?_ ?_ | refine le_below (by assumption) ?_) | (dsimp only; omega)))
  have HT := Lib.hid (fun u => taken_c mode u)
  have HL := Lib.hid (fun u hu => look_c w.heap.size S n 0 0 hS (by show _ < _; decide) u hu)
  have HLo := Lib.hid (fun u => lowest_c n u)
  have HF := Lib.hid (fun u => readOnly_c n u)
  have HM : Hid (mayF S mode n write = if noB (takenN mode) n write = true then false else moreB S (takenN mode) n) := rfl
  obtain ⟨m, hm⟩ : ∃ m, takenN mode = m := ⟨_, rfl⟩
  obtain ⟨x, hx⟩ : ∃ x, rdF S n 0 0 = x := ⟨_, rfl⟩
  rw [hm] at HT HM
  rw [hx] at HL
  clear hx
  obtain rfl := hw.out
  rw [ht.out] at HL
  rw [hf.out] at HF
  have hlo' := hlo.out
  rw [hm] at hlo'
  replace HM : Hid (mayF S mode n true = moreB S m n) := by show _ = _; rw [HM.out]; unfold noB; rw [ht.out, show decide (m < lowI n) = false from decide_eq_false hlo', hf.out]; rfl
  obtain ⟨lo, hlo2⟩ : ∃ lo, lowI n = lo := ⟨_, rfl⟩
  rw [hlo2] at HLo hlo'
  clear ht hlo hlo2 hw hf
  have HFl := Lib.hid (fun u => isOfFloats_c n u)
  have h3' := h3.out; rw [hm] at h3'; subst h3'
  rw [h1.out] at HFl
  obtain rfl := h2.out
  replace HM : Hid (mayF S mode 384 true = true) := by show _ = _; rw [HM.out]; rfl
  clear h1 h2 h3 hm
  go_enter Try.func12, Try.ntmps12
  go_wp2_with fail
  refine (HT.out _).mono ?_; rintro e w9 ⟨rfl, h⟩; replace h := h.symm; subst h
  go_wp2_with fail
  refine (HL.out _ R.out).mono ?_; rintro e w2 ⟨rfl, hb⟩
  replace R := Lib.hid (R.out.below hb (by rw [sz_alloc]; omega))
  replace HB := Lib.hid (below_step hb HB.out HB.out.size)
  clear hb HL
  go_wp2_with fail
  refine (HLo.out _).mono ?_; rintro e w9 ⟨rfl, h⟩; replace h := h.symm; subst h
  go_wp2_with fail
  refine (HF.out _).mono ?_; rintro e w9 ⟨rfl, h⟩; replace h := h.symm; subst h
  go_wp2_with fail
  refine (HFl.out _).mono ?_; rintro e w9 ⟨rfl, h⟩; replace h := h.symm; subst h
  go_wp2_with fail
  go_ret
  exact retB_mk (by rw [HM.out]) HB.out
set_option maxRecDepth 100000 in
theorem may_satp_o_r (S : Nat → Nat) (mode n : Int) (write : Bool) (hS : Hid (OkS S)) (ht : Hid (thereB n = true)) (hlo : Hid (¬ takenN mode < lowI n)) (hw : Hid (write = false)) (h1 : Hid (inB n 1 3 = false)) (h2 : Hid (n = 384)) (h3 : Hid (¬ takenN mode = 3)) (w : World) : Calls Try.prog 12 #[.agg (cs S), .int .i64 mode, .int .i64 n, .bool write] w (RetB (mayF S mode n write) w) := by
  have R : Hid (Row (w.alloc (Obj.cells (cs S) 26)) w.heap.size 26 (cs S)) := row_new _ _ _
  have HB : Hid (Below w.heap.size w (w.alloc (Obj.cells (cs S) 26))) := by show Below _ _ _; exact (by repeat (first | (with_reducible first | exact Below.refl _ _ | assumption | exact Nat.le_refl _ | refine Below.drew ?_ | refine Below.alloc ?_ ?_ _ | refine Below.setCell ?_ ?_ _ | refine le_alloc ?_ | refine le_set ?_ | refine le_drew ?_ | refine below_step (by assumption) ?_ ?_ | refine le_below (by assumption) ?_) | (dsimp only; omega)))
  have HT := Lib.hid (fun u => taken_c mode u)
  have HL := Lib.hid (fun u hu => look_c w.heap.size S n 0 0 hS (by show _ < _; decide) u hu)
  have HLo := Lib.hid (fun u => lowest_c n u)
  have HF := Lib.hid (fun u => readOnly_c n u)
  have HM : Hid (mayF S mode n write = if noB (takenN mode) n write = true then false else moreB S (takenN mode) n) := rfl
  obtain ⟨m, hm⟩ : ∃ m, takenN mode = m := ⟨_, rfl⟩
  obtain ⟨x, hx⟩ : ∃ x, rdF S n 0 0 = x := ⟨_, rfl⟩
  rw [hm] at HT HM
  rw [hx] at HL
  clear hx
  obtain rfl := hw.out
  rw [ht.out] at HL
  have hlo' := hlo.out
  rw [hm] at hlo'
  replace HM : Hid (mayF S mode n false = moreB S m n) := by show _ = _; rw [HM.out]; unfold noB; rw [ht.out, show decide (m < lowI n) = false from decide_eq_false hlo']; rfl
  obtain ⟨lo, hlo2⟩ : ∃ lo, lowI n = lo := ⟨_, rfl⟩
  rw [hlo2] at HLo hlo'
  clear ht hlo hlo2 hw
  have HFl := Lib.hid (fun u => isOfFloats_c n u)
  rw [h1.out] at HFl
  obtain rfl := h2.out
  have a1 : bits .and .u64 (S 0 : Int) 1048576 = ((S 0 &&& 1048576 : Nat) : Int) := u_and (S 0) 1048576 (hS.out.u 0 (by decide)) (by decide)
  have b1 := Lib.hid (cast_beq (S 0 &&& 1048576) 0)
  obtain ⟨y, hy⟩ : ∃ y, S 0 &&& 1048576 = y := ⟨_, rfl⟩
  have h3' := h3.out; rw [hm] at h3'
  have m3 : (m == 3) = false := by rw [beq_eq_false_iff_ne]; exact h3'
  replace HM : Hid (mayF S mode 384 false = (y == 0)) := by show _ = _; rw [HM.out]; unfold moreB; rw [if_neg (by decide), if_pos rfl, m3, hy]; rfl
  rw [hy] at a1 b1
  clear hy h1 h2 h3 hm h3'
  go_enter Try.func12, Try.ntmps12
  go_wp2_with fail
  refine (HT.out _).mono ?_; rintro e w9 ⟨rfl, h⟩; replace h := h.symm; subst h
  go_wp2_with fail
  refine (HL.out _ R.out).mono ?_; rintro e w2 ⟨rfl, hb⟩
  replace R := Lib.hid (R.out.below hb (by rw [sz_alloc]; omega))
  replace HB := Lib.hid (below_step hb HB.out HB.out.size)
  clear hb HL
  go_wp2_with fail
  refine (HLo.out _).mono ?_; rintro e w9 ⟨rfl, h⟩; replace h := h.symm; subst h
  go_wp2_with fail
  refine (HFl.out _).mono ?_; rintro e w9 ⟨rfl, h⟩; replace h := h.symm; subst h
  have c0 : w9.cell? ⟨w.heap.size, 0, none⟩ = some (.int .u64 (S 0 : Nat)) := R.out.cell 0
  go_wp2_with fail
  go_ret
  exact retB_mk (by rw [HM.out, ← b1.out]; rfl) HB.out
set_option maxRecDepth 100000 in
theorem may_satp_o_w (S : Nat → Nat) (mode n : Int) (write : Bool) (hS : Hid (OkS S)) (ht : Hid (thereB n = true)) (hlo : Hid (¬ takenN mode < lowI n)) (hw : Hid (write = true)) (hf : Hid (fixB n = false)) (h1 : Hid (inB n 1 3 = false)) (h2 : Hid (n = 384)) (h3 : Hid (¬ takenN mode = 3)) (w : World) : Calls Try.prog 12 #[.agg (cs S), .int .i64 mode, .int .i64 n, .bool write] w (RetB (mayF S mode n write) w) := by
  have R : Hid (Row (w.alloc (Obj.cells (cs S) 26)) w.heap.size 26 (cs S)) := row_new _ _ _
  have HB : Hid (Below w.heap.size w (w.alloc (Obj.cells (cs S) 26))) := by show Below _ _ _; exact (by repeat (first | (with_reducible first | exact Below.refl _ _ | assumption | exact Nat.le_refl _ | refine Below.drew ?_ | refine Below.alloc ?_ ?_ _ | refine Below.setCell ?_ ?_ _ | refine le_alloc ?_ | refine le_set ?_ | refine le_drew ?_ | refine below_step (by assumption) ?_ ?_ | refine le_below (by assumption) ?_) | (dsimp only; omega)))
  have HT := Lib.hid (fun u => taken_c mode u)
  have HL := Lib.hid (fun u hu => look_c w.heap.size S n 0 0 hS (by show _ < _; decide) u hu)
  have HLo := Lib.hid (fun u => lowest_c n u)
  have HF := Lib.hid (fun u => readOnly_c n u)
  have HM : Hid (mayF S mode n write = if noB (takenN mode) n write = true then false else moreB S (takenN mode) n) := rfl
  obtain ⟨m, hm⟩ : ∃ m, takenN mode = m := ⟨_, rfl⟩
  obtain ⟨x, hx⟩ : ∃ x, rdF S n 0 0 = x := ⟨_, rfl⟩
  rw [hm] at HT HM
  rw [hx] at HL
  clear hx
  obtain rfl := hw.out
  rw [ht.out] at HL
  rw [hf.out] at HF
  have hlo' := hlo.out
  rw [hm] at hlo'
  replace HM : Hid (mayF S mode n true = moreB S m n) := by show _ = _; rw [HM.out]; unfold noB; rw [ht.out, show decide (m < lowI n) = false from decide_eq_false hlo', hf.out]; rfl
  obtain ⟨lo, hlo2⟩ : ∃ lo, lowI n = lo := ⟨_, rfl⟩
  rw [hlo2] at HLo hlo'
  clear ht hlo hlo2 hw hf
  have HFl := Lib.hid (fun u => isOfFloats_c n u)
  rw [h1.out] at HFl
  obtain rfl := h2.out
  have a1 : bits .and .u64 (S 0 : Int) 1048576 = ((S 0 &&& 1048576 : Nat) : Int) := u_and (S 0) 1048576 (hS.out.u 0 (by decide)) (by decide)
  have b1 := Lib.hid (cast_beq (S 0 &&& 1048576) 0)
  obtain ⟨y, hy⟩ : ∃ y, S 0 &&& 1048576 = y := ⟨_, rfl⟩
  have h3' := h3.out; rw [hm] at h3'
  have m3 : (m == 3) = false := by rw [beq_eq_false_iff_ne]; exact h3'
  replace HM : Hid (mayF S mode 384 true = (y == 0)) := by show _ = _; rw [HM.out]; unfold moreB; rw [if_neg (by decide), if_pos rfl, m3, hy]; rfl
  rw [hy] at a1 b1
  clear hy h1 h2 h3 hm h3'
  go_enter Try.func12, Try.ntmps12
  go_wp2_with fail
  refine (HT.out _).mono ?_; rintro e w9 ⟨rfl, h⟩; replace h := h.symm; subst h
  go_wp2_with fail
  refine (HL.out _ R.out).mono ?_; rintro e w2 ⟨rfl, hb⟩
  replace R := Lib.hid (R.out.below hb (by rw [sz_alloc]; omega))
  replace HB := Lib.hid (below_step hb HB.out HB.out.size)
  clear hb HL
  go_wp2_with fail
  refine (HLo.out _).mono ?_; rintro e w9 ⟨rfl, h⟩; replace h := h.symm; subst h
  go_wp2_with fail
  refine (HF.out _).mono ?_; rintro e w9 ⟨rfl, h⟩; replace h := h.symm; subst h
  go_wp2_with fail
  refine (HFl.out _).mono ?_; rintro e w9 ⟨rfl, h⟩; replace h := h.symm; subst h
  have c0 : w9.cell? ⟨w.heap.size, 0, none⟩ = some (.int .u64 (S 0 : Nat)) := R.out.cell 0
  go_wp2_with fail
  go_ret
  exact retB_mk (by rw [HM.out, ← b1.out]; rfl) HB.out
set_option maxRecDepth 100000 in
theorem may_count_r (S : Nat → Nat) (mode n : Int) (write : Bool) (hS : Hid (OkS S)) (ht : Hid (thereB n = true)) (hlo : Hid (¬ takenN mode < lowI n)) (hw : Hid (write = false)) (h1 : Hid (inB n 1 3 = false)) (h2 : Hid (¬ n = 384)) (h3 : Hid (inB n 3072 3103 = true)) (w : World) : Calls Try.prog 12 #[.agg (cs S), .int .i64 mode, .int .i64 n, .bool write] w (RetB (mayF S mode n write) w) := by
  have R : Hid (Row (w.alloc (Obj.cells (cs S) 26)) w.heap.size 26 (cs S)) := row_new _ _ _
  have HB : Hid (Below w.heap.size w (w.alloc (Obj.cells (cs S) 26))) := by show Below _ _ _; exact (by repeat (first | (with_reducible first | exact Below.refl _ _ | assumption | exact Nat.le_refl _ | refine Below.drew ?_ | refine Below.alloc ?_ ?_ _ | refine Below.setCell ?_ ?_ _ | refine le_alloc ?_ | refine le_set ?_ | refine le_drew ?_ | refine below_step (by assumption) ?_ ?_ | refine le_below (by assumption) ?_) | (dsimp only; omega)))
  have HT := Lib.hid (fun u => taken_c mode u)
  have HL := Lib.hid (fun u hu => look_c w.heap.size S n 0 0 hS (by show _ < _; decide) u hu)
  have HLo := Lib.hid (fun u => lowest_c n u)
  have HF := Lib.hid (fun u => readOnly_c n u)
  have HM : Hid (mayF S mode n write = if noB (takenN mode) n write = true then false else moreB S (takenN mode) n) := rfl
  obtain ⟨m, hm⟩ : ∃ m, takenN mode = m := ⟨_, rfl⟩
  obtain ⟨x, hx⟩ : ∃ x, rdF S n 0 0 = x := ⟨_, rfl⟩
  rw [hm] at HT HM
  rw [hx] at HL
  clear hx
  obtain rfl := hw.out
  rw [ht.out] at HL
  have hlo' := hlo.out
  rw [hm] at hlo'
  replace HM : Hid (mayF S mode n false = moreB S m n) := by show _ = _; rw [HM.out]; unfold noB; rw [ht.out, show decide (m < lowI n) = false from decide_eq_false hlo']; rfl
  obtain ⟨lo, hlo2⟩ : ∃ lo, lowI n = lo := ⟨_, rfl⟩
  rw [hlo2] at HLo hlo'
  clear ht hlo hlo2 hw
  have HFl := Lib.hid (fun u => isOfFloats_c n u)
  rw [h1.out] at HFl
  have n384 : (n == 384) = false := by rw [beq_eq_false_iff_ne]; exact h2.out
  have HCt := Lib.hid (fun u => isCounter_c n u)
  rw [h3.out] at HCt
  have HCn := Lib.hid (fun u hu => counters_c w.heap.size S mode hS u hu)
  rw [hm] at HCn
  obtain ⟨a1, j32⟩ := and31 n h3.out
  replace HM : Hid (mayF S mode n false = (ctrN S m / 2 ^ (n - 3072).toNat % 2 == 1)) := by show _ = _; rw [HM.out]; unfold moreB ctrB; rw [h1.out, h3.out, if_neg (by decide), if_neg h2.out, if_pos rfl]
  obtain ⟨j, hj⟩ : ∃ j, (n - 3072).toNat = j := ⟨_, rfl⟩
  rw [hj] at a1 j32 HM
  have a2 := shr_bit (ctrN S m) j (ctr_lt S m hS.out)
  obtain ⟨y, hy⟩ : ∃ y, ctrN S m = y := ⟨_, rfl⟩
  rw [hy] at a2 HCn HM
  obtain ⟨z, hz⟩ : ∃ z, y / 2 ^ j % 2 = z := ⟨_, rfl⟩
  rw [hz] at a2 HM
  have z2 : z < 2 := by rw [← hz]; exact Nat.mod_lt _ (by decide)
  have b1 : Hid ((!((z : Int) == 0)) = (z == 1)) := by
    show _ = _
    have : z = 0 ∨ z = 1 := by omega
    rcases this with rfl | rfl <;> rfl
  have j63 : (j : Int) < 64 := by omega
  have j0 : (0 : Int) ≤ j := by omega
  have jn : ((j : Nat) : Int).toNat = j := by omega
  have J0 := Lib.hid j0
  clear hy hz hj h1 h2 h3 z2 j0 j32 hm
  go_enter Try.func12, Try.ntmps12
  go_wp2_with fail
  refine (HT.out _).mono ?_; rintro e w9 ⟨rfl, h⟩; replace h := h.symm; subst h
  go_wp2_with fail
  refine (HL.out _ R.out).mono ?_; rintro e w2 ⟨rfl, hb⟩
  replace R := Lib.hid (R.out.below hb (by rw [sz_alloc]; omega))
  replace HB := Lib.hid (below_step hb HB.out HB.out.size)
  clear hb HL
  go_wp2_with fail
  refine (HLo.out _).mono ?_; rintro e w9 ⟨rfl, h⟩; replace h := h.symm; subst h
  go_wp2_with fail
  refine (HFl.out _).mono ?_; rintro e w9 ⟨rfl, h⟩; replace h := h.symm; subst h
  go_wp2_with fail
  refine (HCt.out _).mono ?_; rintro e w9 ⟨rfl, h⟩; replace h := h.symm; subst h
  go_wp2_with fail
  refine (HCn.out _ R.out).mono ?_; rintro e w3 ⟨rfl, hb⟩
  replace HB := Lib.hid (below_step hb HB.out HB.out.size)
  clear hb
  go_wp2_with fail
  go_ret
  exact retB_mk (by rw [HM.out, ← b1.out]; rfl) HB.out
set_option maxRecDepth 100000 in
theorem may_count_w (S : Nat → Nat) (mode n : Int) (write : Bool) (hS : Hid (OkS S)) (ht : Hid (thereB n = true)) (hlo : Hid (¬ takenN mode < lowI n)) (hw : Hid (write = true)) (hf : Hid (fixB n = false)) (h1 : Hid (inB n 1 3 = false)) (h2 : Hid (¬ n = 384)) (h3 : Hid (inB n 3072 3103 = true)) (w : World) : Calls Try.prog 12 #[.agg (cs S), .int .i64 mode, .int .i64 n, .bool write] w (RetB (mayF S mode n write) w) := by
  have R : Hid (Row (w.alloc (Obj.cells (cs S) 26)) w.heap.size 26 (cs S)) := row_new _ _ _
  have HB : Hid (Below w.heap.size w (w.alloc (Obj.cells (cs S) 26))) := by show Below _ _ _; exact (by repeat (first | (with_reducible first | exact Below.refl _ _ | assumption | exact Nat.le_refl _ | refine Below.drew ?_ | refine Below.alloc ?_ ?_ _ | refine Below.setCell ?_ ?_ _ | refine le_alloc ?_ | refine le_set ?_ | refine le_drew ?_ | refine below_step (by assumption) ?_ ?_ | refine le_below (by assumption) ?_) | (dsimp only; omega)))
  have HT := Lib.hid (fun u => taken_c mode u)
  have HL := Lib.hid (fun u hu => look_c w.heap.size S n 0 0 hS (by show _ < _; decide) u hu)
  have HLo := Lib.hid (fun u => lowest_c n u)
  have HF := Lib.hid (fun u => readOnly_c n u)
  have HM : Hid (mayF S mode n write = if noB (takenN mode) n write = true then false else moreB S (takenN mode) n) := rfl
  obtain ⟨m, hm⟩ : ∃ m, takenN mode = m := ⟨_, rfl⟩
  obtain ⟨x, hx⟩ : ∃ x, rdF S n 0 0 = x := ⟨_, rfl⟩
  rw [hm] at HT HM
  rw [hx] at HL
  clear hx
  obtain rfl := hw.out
  rw [ht.out] at HL
  rw [hf.out] at HF
  have hlo' := hlo.out
  rw [hm] at hlo'
  replace HM : Hid (mayF S mode n true = moreB S m n) := by show _ = _; rw [HM.out]; unfold noB; rw [ht.out, show decide (m < lowI n) = false from decide_eq_false hlo', hf.out]; rfl
  obtain ⟨lo, hlo2⟩ : ∃ lo, lowI n = lo := ⟨_, rfl⟩
  rw [hlo2] at HLo hlo'
  clear ht hlo hlo2 hw hf
  have HFl := Lib.hid (fun u => isOfFloats_c n u)
  rw [h1.out] at HFl
  have n384 : (n == 384) = false := by rw [beq_eq_false_iff_ne]; exact h2.out
  have HCt := Lib.hid (fun u => isCounter_c n u)
  rw [h3.out] at HCt
  have HCn := Lib.hid (fun u hu => counters_c w.heap.size S mode hS u hu)
  rw [hm] at HCn
  obtain ⟨a1, j32⟩ := and31 n h3.out
  replace HM : Hid (mayF S mode n true = (ctrN S m / 2 ^ (n - 3072).toNat % 2 == 1)) := by show _ = _; rw [HM.out]; unfold moreB ctrB; rw [h1.out, h3.out, if_neg (by decide), if_neg h2.out, if_pos rfl]
  obtain ⟨j, hj⟩ : ∃ j, (n - 3072).toNat = j := ⟨_, rfl⟩
  rw [hj] at a1 j32 HM
  have a2 := shr_bit (ctrN S m) j (ctr_lt S m hS.out)
  obtain ⟨y, hy⟩ : ∃ y, ctrN S m = y := ⟨_, rfl⟩
  rw [hy] at a2 HCn HM
  obtain ⟨z, hz⟩ : ∃ z, y / 2 ^ j % 2 = z := ⟨_, rfl⟩
  rw [hz] at a2 HM
  have z2 : z < 2 := by rw [← hz]; exact Nat.mod_lt _ (by decide)
  have b1 : Hid ((!((z : Int) == 0)) = (z == 1)) := by
    show _ = _
    have : z = 0 ∨ z = 1 := by omega
    rcases this with rfl | rfl <;> rfl
  have j63 : (j : Int) < 64 := by omega
  have j0 : (0 : Int) ≤ j := by omega
  have jn : ((j : Nat) : Int).toNat = j := by omega
  have J0 := Lib.hid j0
  clear hy hz hj h1 h2 h3 z2 j0 j32 hm
  go_enter Try.func12, Try.ntmps12
  go_wp2_with fail
  refine (HT.out _).mono ?_; rintro e w9 ⟨rfl, h⟩; replace h := h.symm; subst h
  go_wp2_with fail
  refine (HL.out _ R.out).mono ?_; rintro e w2 ⟨rfl, hb⟩
  replace R := Lib.hid (R.out.below hb (by rw [sz_alloc]; omega))
  replace HB := Lib.hid (below_step hb HB.out HB.out.size)
  clear hb HL
  go_wp2_with fail
  refine (HLo.out _).mono ?_; rintro e w9 ⟨rfl, h⟩; replace h := h.symm; subst h
  go_wp2_with fail
  refine (HF.out _).mono ?_; rintro e w9 ⟨rfl, h⟩; replace h := h.symm; subst h
  go_wp2_with fail
  refine (HFl.out _).mono ?_; rintro e w9 ⟨rfl, h⟩; replace h := h.symm; subst h
  go_wp2_with fail
  refine (HCt.out _).mono ?_; rintro e w9 ⟨rfl, h⟩; replace h := h.symm; subst h
  go_wp2_with fail
  refine (HCn.out _ R.out).mono ?_; rintro e w3 ⟨rfl, hb⟩
  replace HB := Lib.hid (below_step hb HB.out HB.out.size)
  clear hb
  go_wp2_with fail
  go_ret
  exact retB_mk (by rw [HM.out, ← b1.out]; rfl) HB.out
set_option maxRecDepth 100000 in
theorem may_else_r (S : Nat → Nat) (mode n : Int) (write : Bool) (hS : Hid (OkS S)) (ht : Hid (thereB n = true)) (hlo : Hid (¬ takenN mode < lowI n)) (hw : Hid (write = false)) (h1 : Hid (inB n 1 3 = false)) (h2 : Hid (¬ n = 384)) (h3 : Hid (inB n 3072 3103 = false)) (w : World) : Calls Try.prog 12 #[.agg (cs S), .int .i64 mode, .int .i64 n, .bool write] w (RetB (mayF S mode n write) w) := by
  have R : Hid (Row (w.alloc (Obj.cells (cs S) 26)) w.heap.size 26 (cs S)) := row_new _ _ _
  have HB : Hid (Below w.heap.size w (w.alloc (Obj.cells (cs S) 26))) := by show Below _ _ _; exact (by repeat (first | (with_reducible first | exact Below.refl _ _ | assumption | exact Nat.le_refl _ | refine Below.drew ?_ | refine Below.alloc ?_ ?_ _ | refine Below.setCell ?_ ?_ _ | refine le_alloc ?_ | refine le_set ?_ | refine le_drew ?_ | refine below_step (by assumption) ?_ ?_ | refine le_below (by assumption) ?_) | (dsimp only; omega)))
  have HT := Lib.hid (fun u => taken_c mode u)
  have HL := Lib.hid (fun u hu => look_c w.heap.size S n 0 0 hS (by show _ < _; decide) u hu)
  have HLo := Lib.hid (fun u => lowest_c n u)
  have HF := Lib.hid (fun u => readOnly_c n u)
  have HM : Hid (mayF S mode n write = if noB (takenN mode) n write = true then false else moreB S (takenN mode) n) := rfl
  obtain ⟨m, hm⟩ : ∃ m, takenN mode = m := ⟨_, rfl⟩
  obtain ⟨x, hx⟩ : ∃ x, rdF S n 0 0 = x := ⟨_, rfl⟩
  rw [hm] at HT HM
  rw [hx] at HL
  clear hx
  obtain rfl := hw.out
  rw [ht.out] at HL
  have hlo' := hlo.out
  rw [hm] at hlo'
  replace HM : Hid (mayF S mode n false = moreB S m n) := by show _ = _; rw [HM.out]; unfold noB; rw [ht.out, show decide (m < lowI n) = false from decide_eq_false hlo']; rfl
  obtain ⟨lo, hlo2⟩ : ∃ lo, lowI n = lo := ⟨_, rfl⟩
  rw [hlo2] at HLo hlo'
  clear ht hlo hlo2 hw
  have HFl := Lib.hid (fun u => isOfFloats_c n u)
  rw [h1.out] at HFl
  have n384 : (n == 384) = false := by rw [beq_eq_false_iff_ne]; exact h2.out
  have HCt := Lib.hid (fun u => isCounter_c n u)
  rw [h3.out] at HCt
  replace HM : Hid (mayF S mode n false = true) := by show _ = _; rw [HM.out]; unfold moreB; rw [h1.out, h3.out, if_neg (by decide), if_neg h2.out, if_neg (by decide)]
  clear h1 h2 h3 hm
  go_enter Try.func12, Try.ntmps12
  go_wp2_with fail
  refine (HT.out _).mono ?_; rintro e w9 ⟨rfl, h⟩; replace h := h.symm; subst h
  go_wp2_with fail
  refine (HL.out _ R.out).mono ?_; rintro e w2 ⟨rfl, hb⟩
  replace R := Lib.hid (R.out.below hb (by rw [sz_alloc]; omega))
  replace HB := Lib.hid (below_step hb HB.out HB.out.size)
  clear hb HL
  go_wp2_with fail
  refine (HLo.out _).mono ?_; rintro e w9 ⟨rfl, h⟩; replace h := h.symm; subst h
  go_wp2_with fail
  refine (HFl.out _).mono ?_; rintro e w9 ⟨rfl, h⟩; replace h := h.symm; subst h
  go_wp2_with fail
  refine (HCt.out _).mono ?_; rintro e w9 ⟨rfl, h⟩; replace h := h.symm; subst h
  go_wp2_with fail
  go_ret
  exact retB_mk (by rw [HM.out]) HB.out
set_option maxRecDepth 100000 in
theorem may_else_w (S : Nat → Nat) (mode n : Int) (write : Bool) (hS : Hid (OkS S)) (ht : Hid (thereB n = true)) (hlo : Hid (¬ takenN mode < lowI n)) (hw : Hid (write = true)) (hf : Hid (fixB n = false)) (h1 : Hid (inB n 1 3 = false)) (h2 : Hid (¬ n = 384)) (h3 : Hid (inB n 3072 3103 = false)) (w : World) : Calls Try.prog 12 #[.agg (cs S), .int .i64 mode, .int .i64 n, .bool write] w (RetB (mayF S mode n write) w) := by
  have R : Hid (Row (w.alloc (Obj.cells (cs S) 26)) w.heap.size 26 (cs S)) := row_new _ _ _
  have HB : Hid (Below w.heap.size w (w.alloc (Obj.cells (cs S) 26))) := by show Below _ _ _; exact (by repeat (first | (with_reducible first | exact Below.refl _ _ | assumption | exact Nat.le_refl _ | refine Below.drew ?_ | refine Below.alloc ?_ ?_ _ | refine Below.setCell ?_ ?_ _ | refine le_alloc ?_ | refine le_set ?_ | refine le_drew ?_ | refine below_step (by assumption) ?_ ?_ | refine le_below (by assumption) ?_) | (dsimp only; omega)))
  have HT := Lib.hid (fun u => taken_c mode u)
  have HL := Lib.hid (fun u hu => look_c w.heap.size S n 0 0 hS (by show _ < _; decide) u hu)
  have HLo := Lib.hid (fun u => lowest_c n u)
  have HF := Lib.hid (fun u => readOnly_c n u)
  have HM : Hid (mayF S mode n write = if noB (takenN mode) n write = true then false else moreB S (takenN mode) n) := rfl
  obtain ⟨m, hm⟩ : ∃ m, takenN mode = m := ⟨_, rfl⟩
  obtain ⟨x, hx⟩ : ∃ x, rdF S n 0 0 = x := ⟨_, rfl⟩
  rw [hm] at HT HM
  rw [hx] at HL
  clear hx
  obtain rfl := hw.out
  rw [ht.out] at HL
  rw [hf.out] at HF
  have hlo' := hlo.out
  rw [hm] at hlo'
  replace HM : Hid (mayF S mode n true = moreB S m n) := by show _ = _; rw [HM.out]; unfold noB; rw [ht.out, show decide (m < lowI n) = false from decide_eq_false hlo', hf.out]; rfl
  obtain ⟨lo, hlo2⟩ : ∃ lo, lowI n = lo := ⟨_, rfl⟩
  rw [hlo2] at HLo hlo'
  clear ht hlo hlo2 hw hf
  have HFl := Lib.hid (fun u => isOfFloats_c n u)
  rw [h1.out] at HFl
  have n384 : (n == 384) = false := by rw [beq_eq_false_iff_ne]; exact h2.out
  have HCt := Lib.hid (fun u => isCounter_c n u)
  rw [h3.out] at HCt
  replace HM : Hid (mayF S mode n true = true) := by show _ = _; rw [HM.out]; unfold moreB; rw [h1.out, h3.out, if_neg (by decide), if_neg h2.out, if_neg (by decide)]
  clear h1 h2 h3 hm
  go_enter Try.func12, Try.ntmps12
  go_wp2_with fail
  refine (HT.out _).mono ?_; rintro e w9 ⟨rfl, h⟩; replace h := h.symm; subst h
  go_wp2_with fail
  refine (HL.out _ R.out).mono ?_; rintro e w2 ⟨rfl, hb⟩
  replace R := Lib.hid (R.out.below hb (by rw [sz_alloc]; omega))
  replace HB := Lib.hid (below_step hb HB.out HB.out.size)
  clear hb HL
  go_wp2_with fail
  refine (HLo.out _).mono ?_; rintro e w9 ⟨rfl, h⟩; replace h := h.symm; subst h
  go_wp2_with fail
  refine (HF.out _).mono ?_; rintro e w9 ⟨rfl, h⟩; replace h := h.symm; subst h
  go_wp2_with fail
  refine (HFl.out _).mono ?_; rintro e w9 ⟨rfl, h⟩; replace h := h.symm; subst h
  go_wp2_with fail
  refine (HCt.out _).mono ?_; rintro e w9 ⟨rfl, h⟩; replace h := h.symm; subst h
  go_wp2_with fail
  go_ret
  exact retB_mk (by rw [HM.out]) HB.out
theorem may_c (S : Nat → Nat) (mode n : Int) (write : Bool) (hS : Hid (OkS S)) (w : World) : Calls Try.prog 12 #[.agg (cs S), .int .i64 mode, .int .i64 n, .bool write] w (RetB (mayF S mode n write) w) := by
  cases ht : thereB n with
  | false => exact may_no_there S mode n write hS ht w
  | true =>
    by_cases hlo : takenN mode < lowI n
    · exact may_no_low S mode n write hS ht hlo w
    · cases write with
      | false =>
        cases h1 : inB n 1 3 with
        | true => exact may_float_r S mode n false hS ht hlo rfl h1 w
        | false =>
          by_cases h2 : n = 384
          · by_cases h3 : takenN mode = 3
            · exact may_satp_m_r S mode n false hS ht hlo rfl h1 h2 h3 w
            · exact may_satp_o_r S mode n false hS ht hlo rfl h1 h2 h3 w
          · cases h3 : inB n 3072 3103 with
            | true => exact may_count_r S mode n false hS ht hlo rfl h1 h2 h3 w
            | false => exact may_else_r S mode n false hS ht hlo rfl h1 h2 h3 w
      | true =>
        cases hf : fixB n with
        | true => exact may_no_write S mode n true hS ht hlo rfl hf w
        | false =>
          cases h1 : inB n 1 3 with
          | true => exact may_float_w S mode n true hS ht hlo rfl hf h1 w
          | false =>
            by_cases h2 : n = 384
            · by_cases h3 : takenN mode = 3
              · exact may_satp_m_w S mode n true hS ht hlo rfl hf h1 h2 h3 w
              · exact may_satp_o_w S mode n true hS ht hlo rfl hf h1 h2 h3 w
            · cases h3 : inB n 3072 3103 with
              | true => exact may_count_w S mode n true hS ht hlo rfl hf h1 h2 h3 w
              | false => exact may_else_w S mode n true hS ht hlo rfl hf h1 h2 h3 w
end Go.Proofs.Ytmlbobjbkbcabaa
