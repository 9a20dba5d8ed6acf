/- The reference's May. -/
import Derived.Test.YtmlbobjbkbcabaaB7
namespace Go.Proofs.Ytmlbobjbkbcabaa
open Go.ChangeShapes Go.WideShapes Go.ChangeAt Go.RowKit P
set_option linter.unusedVariables false
set_option linter.unusedSimpArgs false
theorem and_one_bit (x i : Nat) : ((x &&& 2 ^ i) == 0) = (x / 2 ^ i % 2 == 0) := by
  have e : x.testBit i = decide (x / 2 ^ i % 2 = 1) := Nat.testBit_eq_decide_div_mod_eq
  cases h : x.testBit i with
  | true =>
    rw [h] at e
    have h1 := of_decide_eq_true e.symm
    have h2 : x &&& 2 ^ i ≠ 0 := fun h0 => by
      have : (x &&& 2 ^ i).testBit i = true := by simp [Nat.testBit_and, h, Nat.testBit_two_pow_self]
      rw [h0, Nat.zero_testBit] at this; cases this
    rw [h1, beq_eq_false_iff_ne.2 h2]; rfl
  | false =>
    rw [h] at e
    have h1 := of_decide_eq_false e.symm
    have h0 : x / 2 ^ i % 2 = 0 := by omega
    have h2 : x &&& 2 ^ i = 0 := by
      apply Nat.eq_of_testBit_eq
      intro j
      rw [Nat.testBit_and, Nat.testBit_two_pow, Nat.zero_testBit]
      by_cases hj : i = j
      · subst hj; simp [h]
      · simp [hj]
    rw [h2, h0]
theorem and_bit (x y i : Nat) : ((x &&& y) / 2 ^ i % 2 == 1) = ((x / 2 ^ i % 2 == 1) && (y / 2 ^ i % 2 == 1)) := by
  have h : (x &&& y).testBit i = (x.testBit i && y.testBit i) := Nat.testBit_and x y i
  rw [Nat.testBit_eq_decide_div_mod_eq, Nat.testBit_eq_decide_div_mod_eq, Nat.testBit_eq_decide_div_mod_eq] at h
  have e : ∀ z : Nat, (z == 1) = decide (z = 1) := fun z => by rw [Bool.eq_iff_iff]; simp
  rw [e, e, e]; exact h
theorem low_walk (n : Int) : bits .and .i64 (n / 256) 3 = lowI n := rfl
set_option maxRecDepth 100000 in
theorem mayr_no_there (S : Nat → Nat) (mode n : Int) (write : Bool) (hS : Hid (OkS S)) (hmd : mode = 3 ∨ mode = 1 ∨ (¬ mode = 3 ∧ ¬ mode = 1)) (ht : Hid (thereB n = false)) (w : World) : Calls Try.prog 13 #[.agg (cs S), .int .i64 mode, .int .i64 n, .bool write] w (RetB (mayF S mode n write) w) := by
  have R : Hid (Row (w.alloc (Obj.cells (cs S) 26)) w.heap.size 26 (cs S)) := row_new _ _ _
  have HB : Hid (Below w.heap.size w (w.alloc (Obj.cells (cs S) 26))) := by show Below _ _ _; exact (by repeat (first | (with_reducible first | exact Below.refl _ _ | assumption | exact Nat.le_refl _ | refine Below.drew ?_ | refine Below.alloc ?_ ?_ _ | refine Below.setCell ?_ ?_ _ | refine le_alloc ?_ | refine le_set ?_ | refine le_drew ?_ | refine below_step (by assumption) ?_ ?_ | refine le_below (by assumption) ?_) | (dsimp only; omega)))
  have HT := Lib.hid (fun u => there_r n u)
  have HF := Lib.hid (fun u => fixed_r n u)
  have HM : Hid (mayF S mode n write = if noB (takenN mode) n write = true then false else moreB S (takenN mode) n) := rfl
  have hm3 : mode = 3 → takenN mode = 3 := fun h => by subst h; rfl
  have hm1 : mode = 1 → takenN mode = 1 := fun h => by subst h; rfl
  have hm0 : ¬ mode = 3 → ¬ mode = 1 → takenN mode = 0 := fun h h' => by unfold takenN; rw [if_neg h, if_neg h']
  rw [ht.out] at HT
  replace HM : Hid (mayF S mode n write = false) := by show _ = _; rw [HM.out]; unfold noB; rw [ht.out]; rfl
  clear ht
  rcases hmd with h | h | ⟨h, h'⟩
  · subst h
    clear hm3 hm1 hm0
    go_enter Try.func13, Try.ntmps13
    go_wp2_with fail
    refine (HT.out _).mono ?_; rintro e w2 ⟨rfl, hb⟩
    replace R := Lib.hid (R.out.below hb (by rw [sz_alloc]; omega))
    replace HB := Lib.hid (below_step hb HB.out HB.out.size)
    clear hb HT
    go_wp2_with fail
    go_ret
    exact retB_mk (by rw [HM.out]) HB.out
  · subst h
    clear hm3 hm1 hm0
    go_enter Try.func13, Try.ntmps13
    go_wp2_with fail
    refine (HT.out _).mono ?_; rintro e w2 ⟨rfl, hb⟩
    replace R := Lib.hid (R.out.below hb (by rw [sz_alloc]; omega))
    replace HB := Lib.hid (below_step hb HB.out HB.out.size)
    clear hb HT
    go_wp2_with fail
    go_ret
    exact retB_mk (by rw [HM.out]) HB.out
  · have em := hm0 h h'
    have f3 : (mode == 3) = false := by rw [beq_eq_false_iff_ne]; exact h
    have f1 : (mode == 1) = false := by rw [beq_eq_false_iff_ne]; exact h'
    have f3n : (mode != 3) = true := by simp [h]
    have f1n : (mode != 1) = true := by simp [h']
    clear h h'
    clear hm3 hm1 hm0 em
    go_enter Try.func13, Try.ntmps13
    go_wp2_with fail
    refine (HT.out _).mono ?_; rintro e w2 ⟨rfl, hb⟩
    replace R := Lib.hid (R.out.below hb (by rw [sz_alloc]; omega))
    replace HB := Lib.hid (below_step hb HB.out HB.out.size)
    clear hb HT
    go_wp2_with fail
    go_ret
    exact retB_mk (by rw [HM.out]) HB.out
set_option maxRecDepth 100000 in
theorem mayr_no_low (S : Nat → Nat) (mode n : Int) (write : Bool) (hS : Hid (OkS S)) (hmd : mode = 3 ∨ mode = 1 ∨ (¬ mode = 3 ∧ ¬ mode = 1)) (ht : Hid (thereB n = true)) (hlo : Hid (takenN mode < lowI n)) (w : World) : Calls Try.prog 13 #[.agg (cs S), .int .i64 mode, .int .i64 n, .bool write] w (RetB (mayF S mode n write) w) := by
  have R : Hid (Row (w.alloc (Obj.cells (cs S) 26)) w.heap.size 26 (cs S)) := row_new _ _ _
  have HB : Hid (Below w.heap.size w (w.alloc (Obj.cells (cs S) 26))) := by show Below _ _ _; exact (by repeat (first | (with_reducible first | exact Below.refl _ _ | assumption | exact Nat.le_refl _ | refine Below.drew ?_ | refine Below.alloc ?_ ?_ _ | refine Below.setCell ?_ ?_ _ | refine le_alloc ?_ | refine le_set ?_ | refine le_drew ?_ | refine below_step (by assumption) ?_ ?_ | refine le_below (by assumption) ?_) | (dsimp only; omega)))
  have HT := Lib.hid (fun u => there_r n u)
  have HF := Lib.hid (fun u => fixed_r n u)
  have HM : Hid (mayF S mode n write = if noB (takenN mode) n write = true then false else moreB S (takenN mode) n) := rfl
  have hm3 : mode = 3 → takenN mode = 3 := fun h => by subst h; rfl
  have hm1 : mode = 1 → takenN mode = 1 := fun h => by subst h; rfl
  have hm0 : ¬ mode = 3 → ¬ mode = 1 → takenN mode = 0 := fun h h' => by unfold takenN; rw [if_neg h, if_neg h']
  rw [ht.out] at HT
  replace HM : Hid (mayF S mode n write = false) := by show _ = _; rw [HM.out]; unfold noB; rw [ht.out, show decide (takenN mode < lowI n) = true from decide_eq_true hlo.out]; rfl
  clear ht
  rcases hmd with h | h | ⟨h, h'⟩
  · subst h
    have hlo' : (3 < lowI n) := hlo.out
    have lw := low_walk n
    obtain ⟨lo, hlo2⟩ : ∃ lo, lowI n = lo := ⟨_, rfl⟩
    rw [hlo2] at lw hlo'
    clear hlo hlo2 hm3 hm1 hm0
    go_enter Try.func13, Try.ntmps13
    go_wp2_with fail
    refine (HT.out _).mono ?_; rintro e w2 ⟨rfl, hb⟩
    replace R := Lib.hid (R.out.below hb (by rw [sz_alloc]; omega))
    replace HB := Lib.hid (below_step hb HB.out HB.out.size)
    clear hb HT
    go_wp2_with fail
    go_ret
    exact retB_mk (by rw [HM.out]) HB.out
  · subst h
    have hlo' : (1 < lowI n) := hlo.out
    have lw := low_walk n
    obtain ⟨lo, hlo2⟩ : ∃ lo, lowI n = lo := ⟨_, rfl⟩
    rw [hlo2] at lw hlo'
    clear hlo hlo2 hm3 hm1 hm0
    go_enter Try.func13, Try.ntmps13
    go_wp2_with fail
    refine (HT.out _).mono ?_; rintro e w2 ⟨rfl, hb⟩
    replace R := Lib.hid (R.out.below hb (by rw [sz_alloc]; omega))
    replace HB := Lib.hid (below_step hb HB.out HB.out.size)
    clear hb HT
    go_wp2_with fail
    go_ret
    exact retB_mk (by rw [HM.out]) HB.out
  · have em := hm0 h h'
    have f3 : (mode == 3) = false := by rw [beq_eq_false_iff_ne]; exact h
    have f1 : (mode == 1) = false := by rw [beq_eq_false_iff_ne]; exact h'
    have f3n : (mode != 3) = true := by simp [h]
    have f1n : (mode != 1) = true := by simp [h']
    clear h h'
    have hlo' : (0 < lowI n) := by have := hlo.out; rw [em] at this; exact this
    clear em
    have lw := low_walk n
    obtain ⟨lo, hlo2⟩ : ∃ lo, lowI n = lo := ⟨_, rfl⟩
    rw [hlo2] at lw hlo'
    clear hlo hlo2 hm3 hm1 hm0
    go_enter Try.func13, Try.ntmps13
    go_wp2_with fail
    refine (HT.out _).mono ?_; rintro e w2 ⟨rfl, hb⟩
    replace R := Lib.hid (R.out.below hb (by rw [sz_alloc]; omega))
    replace HB := Lib.hid (below_step hb HB.out HB.out.size)
    clear hb HT
    go_wp2_with fail
    go_ret
    exact retB_mk (by rw [HM.out]) HB.out
set_option maxRecDepth 100000 in
theorem mayr_no_write (S : Nat → Nat) (mode n : Int) (write : Bool) (hS : Hid (OkS S)) (hmd : mode = 3 ∨ mode = 1 ∨ (¬ mode = 3 ∧ ¬ mode = 1)) (ht : Hid (thereB n = true)) (hlo : Hid (¬ takenN mode < lowI n)) (hw : Hid (write = true)) (hf : Hid (fixB n = true)) (w : World) : Calls Try.prog 13 #[.agg (cs S), .int .i64 mode, .int .i64 n, .bool write] w (RetB (mayF S mode n write) w) := by
  have R : Hid (Row (w.alloc (Obj.cells (cs S) 26)) w.heap.size 26 (cs S)) := row_new _ _ _
  have HB : Hid (Below w.heap.size w (w.alloc (Obj.cells (cs S) 26))) := by show Below _ _ _; exact (by repeat (first | (with_reducible first | exact Below.refl _ _ | assumption | exact Nat.le_refl _ | refine Below.drew ?_ | refine Below.alloc ?_ ?_ _ | refine Below.setCell ?_ ?_ _ | refine le_alloc ?_ | refine le_set ?_ | refine le_drew ?_ | refine below_step (by assumption) ?_ ?_ | refine le_below (by assumption) ?_) | (dsimp only; omega)))
  have HT := Lib.hid (fun u => there_r n u)
  have HF := Lib.hid (fun u => fixed_r n u)
  have HM : Hid (mayF S mode n write = if noB (takenN mode) n write = true then false else moreB S (takenN mode) n) := rfl
  have hm3 : mode = 3 → takenN mode = 3 := fun h => by subst h; rfl
  have hm1 : mode = 1 → takenN mode = 1 := fun h => by subst h; rfl
  have hm0 : ¬ mode = 3 → ¬ mode = 1 → takenN mode = 0 := fun h h' => by unfold takenN; rw [if_neg h, if_neg h']
  obtain rfl := hw.out
  rw [ht.out] at HT
  rw [hf.out] at HF
  replace HM : Hid (mayF S mode n true = false) := by show _ = _; rw [HM.out]; unfold noB; rw [ht.out, hf.out]; simp
  clear ht hf hw
  rcases hmd with h | h | ⟨h, h'⟩
  · subst h
    have hlo' : ¬ (3 < lowI n) := hlo.out
    have lw := low_walk n
    obtain ⟨lo, hlo2⟩ : ∃ lo, lowI n = lo := ⟨_, rfl⟩
    rw [hlo2] at lw hlo'
    clear hlo hlo2 hm3 hm1 hm0
    go_enter Try.func13, Try.ntmps13
    go_wp2_with fail
    refine (HT.out _).mono ?_; rintro e w2 ⟨rfl, hb⟩
    replace R := Lib.hid (R.out.below hb (by rw [sz_alloc]; omega))
    replace HB := Lib.hid (below_step hb HB.out HB.out.size)
    clear hb HT
    go_wp2_with fail
    refine (HF.out _).mono ?_; rintro e w9 ⟨rfl, h⟩; replace h := h.symm; subst h
    go_wp2_with fail
    go_ret
    exact retB_mk (by rw [HM.out]) HB.out
  · subst h
    have hlo' : ¬ (1 < lowI n) := hlo.out
    have lw := low_walk n
    obtain ⟨lo, hlo2⟩ : ∃ lo, lowI n = lo := ⟨_, rfl⟩
    rw [hlo2] at lw hlo'
    clear hlo hlo2 hm3 hm1 hm0
    go_enter Try.func13, Try.ntmps13
    go_wp2_with fail
    refine (HT.out _).mono ?_; rintro e w2 ⟨rfl, hb⟩
    replace R := Lib.hid (R.out.below hb (by rw [sz_alloc]; omega))
    replace HB := Lib.hid (below_step hb HB.out HB.out.size)
    clear hb HT
    go_wp2_with fail
    refine (HF.out _).mono ?_; rintro e w9 ⟨rfl, h⟩; replace h := h.symm; subst h
    go_wp2_with fail
    go_ret
    exact retB_mk (by rw [HM.out]) HB.out
  · have em := hm0 h h'
    have f3 : (mode == 3) = false := by rw [beq_eq_false_iff_ne]; exact h
    have f1 : (mode == 1) = false := by rw [beq_eq_false_iff_ne]; exact h'
    have f3n : (mode != 3) = true := by simp [h]
    have f1n : (mode != 1) = true := by simp [h']
    clear h h'
    have hlo' : ¬ (0 < lowI n) := by have := hlo.out; rw [em] at this; exact this
    clear em
    have lw := low_walk n
    obtain ⟨lo, hlo2⟩ : ∃ lo, lowI n = lo := ⟨_, rfl⟩
    rw [hlo2] at lw hlo'
    clear hlo hlo2 hm3 hm1 hm0
    go_enter Try.func13, Try.ntmps13
    go_wp2_with fail
    refine (HT.out _).mono ?_; rintro e w2 ⟨rfl, hb⟩
    replace R := Lib.hid (R.out.below hb (by rw [sz_alloc]; omega))
    replace HB := Lib.hid (below_step hb HB.out HB.out.size)
    clear hb HT
    go_wp2_with fail
    refine (HF.out _).mono ?_; rintro e w9 ⟨rfl, h⟩; replace h := h.symm; subst h
    go_wp2_with fail
    go_ret
    exact retB_mk (by rw [HM.out]) HB.out
set_option maxRecDepth 100000 in
theorem mayr_float_r (S : Nat → Nat) (mode n : Int) (write : Bool) (hS : Hid (OkS S)) (hmd : mode = 3 ∨ mode = 1 ∨ (¬ mode = 3 ∧ ¬ mode = 1)) (ht : Hid (thereB n = true)) (hlo : Hid (¬ takenN mode < lowI n)) (hw : Hid (write = false)) (h1 : Hid (inB n 1 3 = true)) (w : World) : Calls Try.prog 13 #[.agg (cs S), .int .i64 mode, .int .i64 n, .bool write] w (RetB (mayF S mode n write) w) := by
  have R : Hid (Row (w.alloc (Obj.cells (cs S) 26)) w.heap.size 26 (cs S)) := row_new _ _ _
  have HB : Hid (Below w.heap.size w (w.alloc (Obj.cells (cs S) 26))) := by show Below _ _ _; exact (by repeat (first | (with_reducible first | exact Below.refl _ _ | assumption | exact Nat.le_refl _ | refine Below.drew ?_ | refine Below.alloc ?_ ?_ _ | refine Below.setCell ?_ ?_ _ | refine le_alloc ?_ | refine le_set ?_ | refine le_drew ?_ | refine below_step (by assumption) ?_ ?_ | refine le_below (by assumption) ?_) | (dsimp only; omega)))
  have HT := Lib.hid (fun u => there_r n u)
  have HF := Lib.hid (fun u => fixed_r n u)
  have HM : Hid (mayF S mode n write = if noB (takenN mode) n write = true then false else moreB S (takenN mode) n) := rfl
  have hm3 : mode = 3 → takenN mode = 3 := fun h => by subst h; rfl
  have hm1 : mode = 1 → takenN mode = 1 := fun h => by subst h; rfl
  have hm0 : ¬ mode = 3 → ¬ mode = 1 → takenN mode = 0 := fun h h' => by unfold takenN; rw [if_neg h, if_neg h']
  obtain rfl := hw.out
  have ge := there_ge ht.out
  rw [ht.out] at HT
  replace HM : Hid (mayF S mode n false = moreB S (takenN mode) n) := by show _ = _; rw [HM.out]; unfold noB; rw [ht.out, show decide (takenN mode < lowI n) = false from decide_eq_false hlo.out]; rfl
  clear ht hw
  have h1' := (in_iff n 1 3).1 h1.out
  have n3 := h1'.2
  replace HM : Hid (mayF S mode n false = !((S 0 &&& 24576) == 0)) := by show _ = _; rw [HM.out]; unfold moreB; rw [h1.out]; rfl
  have a1 : bits .and .u64 (S 0 : Int) 24576 = ((S 0 &&& 24576 : Nat) : Int) := u_and (S 0) 24576 (hS.out.u 0 (by decide)) (by decide)
  have b1 := Lib.hid (cast_beq (S 0 &&& 24576) 0)
  obtain ⟨y, hy⟩ : ∃ y, S 0 &&& 24576 = y := ⟨_, rfl⟩
  rw [hy] at a1 HM b1
  clear hy h1 h1' ge
  rcases hmd with h | h | ⟨h, h'⟩
  · subst h
    have hlo' : ¬ (3 < lowI n) := hlo.out
    have lw := low_walk n
    obtain ⟨lo, hlo2⟩ : ∃ lo, lowI n = lo := ⟨_, rfl⟩
    rw [hlo2] at lw hlo'
    clear hlo hlo2 hm3 hm1 hm0
    go_enter Try.func13, Try.ntmps13
    go_wp2_with fail
    refine (HT.out _).mono ?_; rintro e w2 ⟨rfl, hb⟩
    replace R := Lib.hid (R.out.below hb (by rw [sz_alloc]; omega))
    replace HB := Lib.hid (below_step hb HB.out HB.out.size)
    clear hb HT
    have c0 := R.out.cell 0
    rw [cs_u S 0 (by unfold isU; decide)] at c0
    go_wp2_with fail
    go_ret
    exact retB_mk (by rw [HM.out, ← b1.out]; rfl) HB.out
  · subst h
    have hlo' : ¬ (1 < lowI n) := hlo.out
    have lw := low_walk n
    obtain ⟨lo, hlo2⟩ : ∃ lo, lowI n = lo := ⟨_, rfl⟩
    rw [hlo2] at lw hlo'
    clear hlo hlo2 hm3 hm1 hm0
    go_enter Try.func13, Try.ntmps13
    go_wp2_with fail
    refine (HT.out _).mono ?_; rintro e w2 ⟨rfl, hb⟩
    replace R := Lib.hid (R.out.below hb (by rw [sz_alloc]; omega))
    replace HB := Lib.hid (below_step hb HB.out HB.out.size)
    clear hb HT
    have c0 := R.out.cell 0
    rw [cs_u S 0 (by unfold isU; decide)] at c0
    go_wp2_with fail
    go_ret
    exact retB_mk (by rw [HM.out, ← b1.out]; rfl) HB.out
  · have em := hm0 h h'
    have f3 : (mode == 3) = false := by rw [beq_eq_false_iff_ne]; exact h
    have f1 : (mode == 1) = false := by rw [beq_eq_false_iff_ne]; exact h'
    have f3n : (mode != 3) = true := by simp [h]
    have f1n : (mode != 1) = true := by simp [h']
    clear h h'
    have hlo' : ¬ (0 < lowI n) := by have := hlo.out; rw [em] at this; exact this
    clear em
    have lw := low_walk n
    obtain ⟨lo, hlo2⟩ : ∃ lo, lowI n = lo := ⟨_, rfl⟩
    rw [hlo2] at lw hlo'
    clear hlo hlo2 hm3 hm1 hm0
    go_enter Try.func13, Try.ntmps13
    go_wp2_with fail
    refine (HT.out _).mono ?_; rintro e w2 ⟨rfl, hb⟩
    replace R := Lib.hid (R.out.below hb (by rw [sz_alloc]; omega))
    replace HB := Lib.hid (below_step hb HB.out HB.out.size)
    clear hb HT
    have c0 := R.out.cell 0
    rw [cs_u S 0 (by unfold isU; decide)] at c0
    go_wp2_with fail
    go_ret
    exact retB_mk (by rw [HM.out, ← b1.out]; rfl) HB.out
set_option maxRecDepth 100000 in
theorem mayr_float_w (S : Nat → Nat) (mode n : Int) (write : Bool) (hS : Hid (OkS S)) (hmd : mode = 3 ∨ mode = 1 ∨ (¬ mode = 3 ∧ ¬ mode = 1)) (ht : Hid (thereB n = true)) (hlo : Hid (¬ takenN mode < lowI n)) (hw : Hid (write = true)) (hf : Hid (fixB n = false)) (h1 : Hid (inB n 1 3 = true)) (w : World) : Calls Try.prog 13 #[.agg (cs S), .int .i64 mode, .int .i64 n, .bool write] w (RetB (mayF S mode n write) w) := by
  have R : Hid (Row (w.alloc (Obj.cells (cs S) 26)) w.heap.size 26 (cs S)) := row_new _ _ _
  have HB : Hid (Below w.heap.size w (w.alloc (Obj.cells (cs S) 26))) := by show Below _ _ _; exact (by repeat (first | (with_reducible first | exact Below.refl _ _ | assumption | exact Nat.le_refl _ | refine Below.drew ?_ | refine Below.alloc ?_ ?_ _ | refine Below.setCell ?_ ?_ _ | refine le_alloc ?_ | refine le_set ?_ | refine le_drew ?_ | refine below_step (by assumption) ?_ ?_ | refine le_below (by assumption) ?_) | (dsimp only; omega)))
  have HT := Lib.hid (fun u => there_r n u)
  have HF := Lib.hid (fun u => fixed_r n u)
  have HM : Hid (mayF S mode n write = if noB (takenN mode) n write = true then false else moreB S (takenN mode) n) := rfl
  have hm3 : mode = 3 → takenN mode = 3 := fun h => by subst h; rfl
  have hm1 : mode = 1 → takenN mode = 1 := fun h => by subst h; rfl
  have hm0 : ¬ mode = 3 → ¬ mode = 1 → takenN mode = 0 := fun h h' => by unfold takenN; rw [if_neg h, if_neg h']
  obtain rfl := hw.out
  have ge := there_ge ht.out
  rw [ht.out] at HT
  rw [hf.out] at HF
  replace HM : Hid (mayF S mode n true = moreB S (takenN mode) n) := by show _ = _; rw [HM.out]; unfold noB; rw [ht.out, show decide (takenN mode < lowI n) = false from decide_eq_false hlo.out, hf.out]; rfl
  clear ht hw hf
  have h1' := (in_iff n 1 3).1 h1.out
  have n3 := h1'.2
  replace HM : Hid (mayF S mode n true = !((S 0 &&& 24576) == 0)) := by show _ = _; rw [HM.out]; unfold moreB; rw [h1.out]; rfl
  have a1 : bits .and .u64 (S 0 : Int) 24576 = ((S 0 &&& 24576 : Nat) : Int) := u_and (S 0) 24576 (hS.out.u 0 (by decide)) (by decide)
  have b1 := Lib.hid (cast_beq (S 0 &&& 24576) 0)
  obtain ⟨y, hy⟩ : ∃ y, S 0 &&& 24576 = y := ⟨_, rfl⟩
  rw [hy] at a1 HM b1
  clear hy h1 h1' ge
  rcases hmd with h | h | ⟨h, h'⟩
  · subst h
    have hlo' : ¬ (3 < lowI n) := hlo.out
    have lw := low_walk n
    obtain ⟨lo, hlo2⟩ : ∃ lo, lowI n = lo := ⟨_, rfl⟩
    rw [hlo2] at lw hlo'
    clear hlo hlo2 hm3 hm1 hm0
    go_enter Try.func13, Try.ntmps13
    go_wp2_with fail
    refine (HT.out _).mono ?_; rintro e w2 ⟨rfl, hb⟩
    replace R := Lib.hid (R.out.below hb (by rw [sz_alloc]; omega))
    replace HB := Lib.hid (below_step hb HB.out HB.out.size)
    clear hb HT
    go_wp2_with fail
    refine (HF.out _).mono ?_; rintro e w9 ⟨rfl, h⟩; replace h := h.symm; subst h
    have c0 := R.out.cell 0
    rw [cs_u S 0 (by unfold isU; decide)] at c0
    go_wp2_with fail
    go_ret
    exact retB_mk (by rw [HM.out, ← b1.out]; rfl) HB.out
  · subst h
    have hlo' : ¬ (1 < lowI n) := hlo.out
    have lw := low_walk n
    obtain ⟨lo, hlo2⟩ : ∃ lo, lowI n = lo := ⟨_, rfl⟩
    rw [hlo2] at lw hlo'
    clear hlo hlo2 hm3 hm1 hm0
    go_enter Try.func13, Try.ntmps13
    go_wp2_with fail
    refine (HT.out _).mono ?_; rintro e w2 ⟨rfl, hb⟩
    replace R := Lib.hid (R.out.below hb (by rw [sz_alloc]; omega))
    replace HB := Lib.hid (below_step hb HB.out HB.out.size)
    clear hb HT
    go_wp2_with fail
    refine (HF.out _).mono ?_; rintro e w9 ⟨rfl, h⟩; replace h := h.symm; subst h
    have c0 := R.out.cell 0
    rw [cs_u S 0 (by unfold isU; decide)] at c0
    go_wp2_with fail
    go_ret
    exact retB_mk (by rw [HM.out, ← b1.out]; rfl) HB.out
  · have em := hm0 h h'
    have f3 : (mode == 3) = false := by rw [beq_eq_false_iff_ne]; exact h
    have f1 : (mode == 1) = false := by rw [beq_eq_false_iff_ne]; exact h'
    have f3n : (mode != 3) = true := by simp [h]
    have f1n : (mode != 1) = true := by simp [h']
    clear h h'
    have hlo' : ¬ (0 < lowI n) := by have := hlo.out; rw [em] at this; exact this
    clear em
    have lw := low_walk n
    obtain ⟨lo, hlo2⟩ : ∃ lo, lowI n = lo := ⟨_, rfl⟩
    rw [hlo2] at lw hlo'
    clear hlo hlo2 hm3 hm1 hm0
    go_enter Try.func13, Try.ntmps13
    go_wp2_with fail
    refine (HT.out _).mono ?_; rintro e w2 ⟨rfl, hb⟩
    replace R := Lib.hid (R.out.below hb (by rw [sz_alloc]; omega))
    replace HB := Lib.hid (below_step hb HB.out HB.out.size)
    clear hb HT
    go_wp2_with fail
    refine (HF.out _).mono ?_; rintro e w9 ⟨rfl, h⟩; replace h := h.symm; subst h
    have c0 := R.out.cell 0
    rw [cs_u S 0 (by unfold isU; decide)] at c0
    go_wp2_with fail
    go_ret
    exact retB_mk (by rw [HM.out, ← b1.out]; rfl) HB.out
set_option maxRecDepth 100000 in
theorem mayr_satp_r (S : Nat → Nat) (mode n : Int) (write : Bool) (hS : Hid (OkS S)) (hmd : mode = 3 ∨ mode = 1 ∨ (¬ mode = 3 ∧ ¬ mode = 1)) (ht : Hid (thereB n = true)) (hlo : Hid (¬ takenN mode < lowI n)) (hw : Hid (write = false)) (h1 : Hid (inB n 1 3 = false)) (h2 : Hid (n = 384)) (w : World) : Calls Try.prog 13 #[.agg (cs S), .int .i64 mode, .int .i64 n, .bool write] w (RetB (mayF S mode n write) w) := by
  have R : Hid (Row (w.alloc (Obj.cells (cs S) 26)) w.heap.size 26 (cs S)) := row_new _ _ _
  have HB : Hid (Below w.heap.size w (w.alloc (Obj.cells (cs S) 26))) := by show Below _ _ _; exact (by repeat (first | (with_reducible first | exact Below.refl _ _ | assumption | exact Nat.le_refl _ | refine Below.drew ?_ | refine Below.alloc ?_ ?_ _ | refine Below.setCell ?_ ?_ _ | refine le_alloc ?_ | refine le_set ?_ | refine le_drew ?_ | refine below_step (by assumption) ?_ ?_ | refine le_below (by assumption) ?_) | (dsimp only; omega)))
  have HT := Lib.hid (fun u => there_r n u)
  have HF := Lib.hid (fun u => fixed_r n u)
  have HM : Hid (mayF S mode n write = if noB (takenN mode) n write = true then false else moreB S (takenN mode) n) := rfl
  have hm3 : mode = 3 → takenN mode = 3 := fun h => by subst h; rfl
  have hm1 : mode = 1 → takenN mode = 1 := fun h => by subst h; rfl
  have hm0 : ¬ mode = 3 → ¬ mode = 1 → takenN mode = 0 := fun h h' => by unfold takenN; rw [if_neg h, if_neg h']
  obtain rfl := hw.out
  have ge := there_ge ht.out
  rw [ht.out] at HT
  replace HM : Hid (mayF S mode n false = moreB S (takenN mode) n) := by show _ = _; rw [HM.out]; unfold noB; rw [ht.out, show decide (takenN mode < lowI n) = false from decide_eq_false hlo.out]; rfl
  clear ht hw
  have n3 : ¬ n ≤ 3 := fun h => by have := (in_iff n 1 3).2 ⟨ge, h⟩; rw [h1.out] at this; cases this
  have n384 : (n == 384) = true := by rw [beq_iff_eq]; exact h2.out
  have e0 : (S 0 : Int) / 1048576 = ((S 0 / 1048576 : Nat) : Int) := by omega
  have a1 : bits .and .u64 ((S 0 : Int) / 1048576) 1 = ((S 0 / 1048576 % 2 : Nat) : Int) := by
    have h := shr_bit (S 0) 20 (hS.out.u 0 (by decide))
    exact h
  have HO := Lib.hid (and_one_bit (S 0) 20)
  obtain ⟨y, hy⟩ : ∃ y, S 0 / 1048576 % 2 = y := ⟨_, rfl⟩
  have HO2 : Hid (((S 0 &&& 1048576) == 0) = (y == 0)) := by show _ = _; rw [← hy]; exact HO.out
  have b1 := Lib.hid (cast_beq y 0)
  rw [hy] at a1
  clear hy ge HO e0
  rcases hmd with h | h | ⟨h, h'⟩
  · subst h
    have hlo' : ¬ (3 < lowI n) := hlo.out
    replace HM : Hid (mayF S 3 n false = true) := by show _ = _; rw [HM.out]; unfold moreB; rw [h1.out, if_neg (by decide), if_pos h2.out]; rfl
    have lw := low_walk n
    obtain ⟨lo, hlo2⟩ : ∃ lo, lowI n = lo := ⟨_, rfl⟩
    rw [hlo2] at lw hlo'
    clear hlo hlo2 hm3 hm1 hm0
    go_enter Try.func13, Try.ntmps13
    go_wp2_with fail
    refine (HT.out _).mono ?_; rintro e w2 ⟨rfl, hb⟩
    replace R := Lib.hid (R.out.below hb (by rw [sz_alloc]; omega))
    replace HB := Lib.hid (below_step hb HB.out HB.out.size)
    clear hb HT
    have c0 := R.out.cell 0
    rw [cs_u S 0 (by unfold isU; decide)] at c0
    go_wp2_with fail
    go_ret
    exact retB_mk (by rw [HM.out]) HB.out
  · subst h
    have hlo' : ¬ (1 < lowI n) := hlo.out
    replace HM : Hid (mayF S 1 n false = (y == 0)) := by show _ = _; rw [HM.out]; unfold moreB; rw [h1.out, if_neg (by decide), if_pos h2.out, show (takenN 1 == 3) = false from rfl, HO2.out]; rfl
    have lw := low_walk n
    obtain ⟨lo, hlo2⟩ : ∃ lo, lowI n = lo := ⟨_, rfl⟩
    rw [hlo2] at lw hlo'
    clear hlo hlo2 hm3 hm1 hm0
    go_enter Try.func13, Try.ntmps13
    go_wp2_with fail
    refine (HT.out _).mono ?_; rintro e w2 ⟨rfl, hb⟩
    replace R := Lib.hid (R.out.below hb (by rw [sz_alloc]; omega))
    replace HB := Lib.hid (below_step hb HB.out HB.out.size)
    clear hb HT
    have c0 := R.out.cell 0
    rw [cs_u S 0 (by unfold isU; decide)] at c0
    go_wp2_with fail
    go_ret
    exact retB_mk (by rw [HM.out, ← b1.out]; rfl) HB.out
  · have em := hm0 h h'
    have f3 : (mode == 3) = false := by rw [beq_eq_false_iff_ne]; exact h
    have f1 : (mode == 1) = false := by rw [beq_eq_false_iff_ne]; exact h'
    have f3n : (mode != 3) = true := by simp [h]
    have f1n : (mode != 1) = true := by simp [h']
    clear h h'
    have hlo' : ¬ (0 < lowI n) := by have := hlo.out; rw [em] at this; exact this
    replace HM : Hid (mayF S mode n false = (y == 0)) := by show _ = _; rw [HM.out]; unfold moreB; rw [h1.out, if_neg (by decide), if_pos h2.out, em, show ((0 : Int) == 3) = false from rfl, HO2.out]; rfl
    clear em
    have lw := low_walk n
    obtain ⟨lo, hlo2⟩ : ∃ lo, lowI n = lo := ⟨_, rfl⟩
    rw [hlo2] at lw hlo'
    clear hlo hlo2 hm3 hm1 hm0
    go_enter Try.func13, Try.ntmps13
    go_wp2_with fail
    refine (HT.out _).mono ?_; rintro e w2 ⟨rfl, hb⟩
    replace R := Lib.hid (R.out.below hb (by rw [sz_alloc]; omega))
    replace HB := Lib.hid (below_step hb HB.out HB.out.size)
    clear hb HT
    have c0 := R.out.cell 0
    rw [cs_u S 0 (by unfold isU; decide)] at c0
    go_wp2_with fail
    go_ret
    exact retB_mk (by rw [HM.out, ← b1.out]; rfl) HB.out
set_option maxRecDepth 100000 in
theorem mayr_satp_w (S : Nat → Nat) (mode n : Int) (write : Bool) (hS : Hid (OkS S)) (hmd : mode = 3 ∨ mode = 1 ∨ (¬ mode = 3 ∧ ¬ mode = 1)) (ht : Hid (thereB n = true)) (hlo : Hid (¬ takenN mode < lowI n)) (hw : Hid (write = true)) (hf : Hid (fixB n = false)) (h1 : Hid (inB n 1 3 = false)) (h2 : Hid (n = 384)) (w : World) : Calls Try.prog 13 #[.agg (cs S), .int .i64 mode, .int .i64 n, .bool write] w (RetB (mayF S mode n write) w) := by
  have R : Hid (Row (w.alloc (Obj.cells (cs S) 26)) w.heap.size 26 (cs S)) := row_new _ _ _
  have HB : Hid (Below w.heap.size w (w.alloc (Obj.cells (cs S) 26))) := by show Below _ _ _; exact (by repeat (first | (with_reducible first | exact Below.refl _ _ | assumption | exact Nat.le_refl _ | refine Below.drew ?_ | refine Below.alloc ?_ ?_ _ | refine Below.setCell ?_ ?_ _ | refine le_alloc ?_ | refine le_set ?_ | refine le_drew ?_ | refine below_step (by assumption) ?_ ?_ | refine le_below (by assumption) ?_) | (dsimp only; omega)))
  have HT := Lib.hid (fun u => there_r n u)
  have HF := Lib.hid (fun u => fixed_r n u)
  have HM : Hid (mayF S mode n write = if noB (takenN mode) n write = true then false else moreB S (takenN mode) n) := rfl
  have hm3 : mode = 3 → takenN mode = 3 := fun h => by subst h; rfl
  have hm1 : mode = 1 → takenN mode = 1 := fun h => by subst h; rfl
  have hm0 : ¬ mode = 3 → ¬ mode = 1 → takenN mode = 0 := fun h h' => by unfold takenN; rw [if_neg h, if_neg h']
  obtain rfl := hw.out
  have ge := there_ge ht.out
  rw [ht.out] at HT
  rw [hf.out] at HF
  replace HM : Hid (mayF S mode n true = moreB S (takenN mode) n) := by show _ = _; rw [HM.out]; unfold noB; rw [ht.out, show decide (takenN mode < lowI n) = false from decide_eq_false hlo.out, hf.out]; rfl
  clear ht hw hf
  have n3 : ¬ n ≤ 3 := fun h => by have := (in_iff n 1 3).2 ⟨ge, h⟩; rw [h1.out] at this; cases this
  have n384 : (n == 384) = true := by rw [beq_iff_eq]; exact h2.out
  have e0 : (S 0 : Int) / 1048576 = ((S 0 / 1048576 : Nat) : Int) := by omega
  have a1 : bits .and .u64 ((S 0 : Int) / 1048576) 1 = ((S 0 / 1048576 % 2 : Nat) : Int) := by
    have h := shr_bit (S 0) 20 (hS.out.u 0 (by decide))
    exact h
  have HO := Lib.hid (and_one_bit (S 0) 20)
  obtain ⟨y, hy⟩ : ∃ y, S 0 / 1048576 % 2 = y := ⟨_, rfl⟩
  have HO2 : Hid (((S 0 &&& 1048576) == 0) = (y == 0)) := by show _ = _; rw [← hy]; exact HO.out
  have b1 := Lib.hid (cast_beq y 0)
  rw [hy] at a1
  clear hy ge HO e0
  rcases hmd with h | h | ⟨h, h'⟩
  · subst h
    have hlo' : ¬ (3 < lowI n) := hlo.out
    replace HM : Hid (mayF S 3 n true = true) := by show _ = _; rw [HM.out]; unfold moreB; rw [h1.out, if_neg (by decide), if_pos h2.out]; rfl
    have lw := low_walk n
    obtain ⟨lo, hlo2⟩ : ∃ lo, lowI n = lo := ⟨_, rfl⟩
    rw [hlo2] at lw hlo'
    clear hlo hlo2 hm3 hm1 hm0
    go_enter Try.func13, Try.ntmps13
    go_wp2_with fail
    refine (HT.out _).mono ?_; rintro e w2 ⟨rfl, hb⟩
    replace R := Lib.hid (R.out.below hb (by rw [sz_alloc]; omega))
    replace HB := Lib.hid (below_step hb HB.out HB.out.size)
    clear hb HT
    go_wp2_with fail
    refine (HF.out _).mono ?_; rintro e w9 ⟨rfl, h⟩; replace h := h.symm; subst h
    have c0 := R.out.cell 0
    rw [cs_u S 0 (by unfold isU; decide)] at c0
    go_wp2_with fail
    go_ret
    exact retB_mk (by rw [HM.out]) HB.out
  · subst h
    have hlo' : ¬ (1 < lowI n) := hlo.out
    replace HM : Hid (mayF S 1 n true = (y == 0)) := by show _ = _; rw [HM.out]; unfold moreB; rw [h1.out, if_neg (by decide), if_pos h2.out, show (takenN 1 == 3) = false from rfl, HO2.out]; rfl
    have lw := low_walk n
    obtain ⟨lo, hlo2⟩ : ∃ lo, lowI n = lo := ⟨_, rfl⟩
    rw [hlo2] at lw hlo'
    clear hlo hlo2 hm3 hm1 hm0
    go_enter Try.func13, Try.ntmps13
    go_wp2_with fail
    refine (HT.out _).mono ?_; rintro e w2 ⟨rfl, hb⟩
    replace R := Lib.hid (R.out.below hb (by rw [sz_alloc]; omega))
    replace HB := Lib.hid (below_step hb HB.out HB.out.size)
    clear hb HT
    go_wp2_with fail
    refine (HF.out _).mono ?_; rintro e w9 ⟨rfl, h⟩; replace h := h.symm; subst h
    have c0 := R.out.cell 0
    rw [cs_u S 0 (by unfold isU; decide)] at c0
    go_wp2_with fail
    go_ret
    exact retB_mk (by rw [HM.out, ← b1.out]; rfl) HB.out
  · have em := hm0 h h'
    have f3 : (mode == 3) = false := by rw [beq_eq_false_iff_ne]; exact h
    have f1 : (mode == 1) = false := by rw [beq_eq_false_iff_ne]; exact h'
    have f3n : (mode != 3) = true := by simp [h]
    have f1n : (mode != 1) = true := by simp [h']
    clear h h'
    have hlo' : ¬ (0 < lowI n) := by have := hlo.out; rw [em] at this; exact this
    replace HM : Hid (mayF S mode n true = (y == 0)) := by show _ = _; rw [HM.out]; unfold moreB; rw [h1.out, if_neg (by decide), if_pos h2.out, em, show ((0 : Int) == 3) = false from rfl, HO2.out]; rfl
    clear em
    have lw := low_walk n
    obtain ⟨lo, hlo2⟩ : ∃ lo, lowI n = lo := ⟨_, rfl⟩
    rw [hlo2] at lw hlo'
    clear hlo hlo2 hm3 hm1 hm0
    go_enter Try.func13, Try.ntmps13
    go_wp2_with fail
    refine (HT.out _).mono ?_; rintro e w2 ⟨rfl, hb⟩
    replace R := Lib.hid (R.out.below hb (by rw [sz_alloc]; omega))
    replace HB := Lib.hid (below_step hb HB.out HB.out.size)
    clear hb HT
    go_wp2_with fail
    refine (HF.out _).mono ?_; rintro e w9 ⟨rfl, h⟩; replace h := h.symm; subst h
    have c0 := R.out.cell 0
    rw [cs_u S 0 (by unfold isU; decide)] at c0
    go_wp2_with fail
    go_ret
    exact retB_mk (by rw [HM.out, ← b1.out]; rfl) HB.out
set_option maxRecDepth 100000 in
theorem mayr_count_r (S : Nat → Nat) (mode n : Int) (write : Bool) (hS : Hid (OkS S)) (hmd : mode = 3 ∨ mode = 1 ∨ (¬ mode = 3 ∧ ¬ mode = 1)) (ht : Hid (thereB n = true)) (hlo : Hid (¬ takenN mode < lowI n)) (hw : Hid (write = false)) (h1 : Hid (inB n 1 3 = false)) (h2 : Hid (¬ n = 384)) (h3 : Hid (inB n 3072 3103 = true)) (w : World) : Calls Try.prog 13 #[.agg (cs S), .int .i64 mode, .int .i64 n, .bool write] w (RetB (mayF S mode n write) w) := by
  have R : Hid (Row (w.alloc (Obj.cells (cs S) 26)) w.heap.size 26 (cs S)) := row_new _ _ _
  have HB : Hid (Below w.heap.size w (w.alloc (Obj.cells (cs S) 26))) := by show Below _ _ _; exact (by repeat (first | (with_reducible first | exact Below.refl _ _ | assumption | exact Nat.le_refl _ | refine Below.drew ?_ | refine Below.alloc ?_ ?_ _ | refine Below.setCell ?_ ?_ _ | refine le_alloc ?_ | refine le_set ?_ | refine le_drew ?_ | refine below_step (by assumption) ?_ ?_ | refine le_below (by assumption) ?_) | (dsimp only; omega)))
  have HT := Lib.hid (fun u => there_r n u)
  have HF := Lib.hid (fun u => fixed_r n u)
  have HM : Hid (mayF S mode n write = if noB (takenN mode) n write = true then false else moreB S (takenN mode) n) := rfl
  have hm3 : mode = 3 → takenN mode = 3 := fun h => by subst h; rfl
  have hm1 : mode = 1 → takenN mode = 1 := fun h => by subst h; rfl
  have hm0 : ¬ mode = 3 → ¬ mode = 1 → takenN mode = 0 := fun h h' => by unfold takenN; rw [if_neg h, if_neg h']
  obtain rfl := hw.out
  have ge := there_ge ht.out
  rw [ht.out] at HT
  replace HM : Hid (mayF S mode n false = moreB S (takenN mode) n) := by show _ = _; rw [HM.out]; unfold noB; rw [ht.out, show decide (takenN mode < lowI n) = false from decide_eq_false hlo.out]; rfl
  clear ht hw
  have n3 : ¬ n ≤ 3 := fun h => by have := (in_iff n 1 3).2 ⟨ge, h⟩; rw [h1.out] at this; cases this
  have n384 : (n == 384) = false := by rw [beq_eq_false_iff_ne]; exact h2.out
  have h3' := (in_iff n 3072 3103).1 h3.out
  have g1 := h3'.1
  have g2 := h3'.2
  obtain ⟨a1, j32⟩ := and31 n h3.out
  replace HM : Hid (mayF S mode n false = (ctrN S (takenN mode) / 2 ^ (n - 3072).toNat % 2 == 1)) := by show _ = _; rw [HM.out]; unfold moreB ctrB; rw [h1.out, h3.out, if_neg (by decide), if_neg h2.out, if_pos rfl]
  obtain ⟨j, hj⟩ : ∃ j, (n - 3072).toNat = j := ⟨_, rfl⟩
  rw [hj] at a1 j32 HM
  have a2 := shr_bit (S 10) j (hS.out.u 10 (by decide))
  have a3 := shr_bit (S 19) j (hS.out.u 19 (by decide))
  have HAB := Lib.hid (and_bit (S 19) (S 10) j)
  have H63 : Hid (18446744073709551615 / 2 ^ j % 2 = 1) := by
    show _ = _
    have h : ∀ j : Fin 32, 18446744073709551615 / 2 ^ j.val % 2 = 1 := by decide +kernel
    exact h ⟨j, j32⟩
  obtain ⟨p, hp⟩ : ∃ p, S 10 / 2 ^ j % 2 = p := ⟨_, rfl⟩
  obtain ⟨q, hq⟩ : ∃ q, S 19 / 2 ^ j % 2 = q := ⟨_, rfl⟩
  rw [hp] at a2; rw [hq] at a3
  have HP := Lib.hid hp; have HQ := Lib.hid hq
  have b1 := Lib.hid (cast_beq p 1)
  have b2 := Lib.hid (cast_beq q 1)
  obtain ⟨P1, hP1⟩ : ∃ P1, ((p : Int) == 1) = P1 := ⟨_, rfl⟩
  obtain ⟨Q1, hQ1⟩ : ∃ Q1, ((q : Int) == 1) = Q1 := ⟨_, rfl⟩
  have B1 : Hid ((p == 1) = P1) := by show _ = _; rw [← hP1]; exact b1.out.symm
  have B2 : Hid ((q == 1) = Q1) := by show _ = _; rw [← hQ1]; exact b2.out.symm
  have j63 : (j : Int) < 64 := by omega
  have jn : ((j : Nat) : Int).toNat = j := by omega
  clear hp hq hj h1 h2 h3 h3' j32 ge b1 b2
  rcases hmd with h | h | ⟨h, h'⟩
  · subst h
    have hlo' : ¬ (3 < lowI n) := hlo.out
    replace HM : Hid (mayF S 3 n false = true) := by show _ = _; rw [HM.out]; show (18446744073709551615 / 2 ^ j % 2 == 1) = true; rw [H63.out]; rfl
    have lw := low_walk n
    obtain ⟨lo, hlo2⟩ : ∃ lo, lowI n = lo := ⟨_, rfl⟩
    rw [hlo2] at lw hlo'
    clear hlo hlo2 hm3 hm1 hm0
    go_enter Try.func13, Try.ntmps13
    go_wp2_with fail
    refine (HT.out _).mono ?_; rintro e w2 ⟨rfl, hb⟩
    replace R := Lib.hid (R.out.below hb (by rw [sz_alloc]; omega))
    replace HB := Lib.hid (below_step hb HB.out HB.out.size)
    clear hb HT
    have c10 := R.out.cell 10
    rw [cs_u S 10 (by unfold isU; decide)] at c10
    have c19 := R.out.cell 19
    rw [cs_u S 19 (by unfold isU; decide)] at c19
    go_wp2_with fail
    go_ret
    exact retB_mk (by rw [HM.out]) HB.out
  · subst h
    have hlo' : ¬ (1 < lowI n) := hlo.out
    replace HM : Hid (mayF S 1 n false = P1) := by show _ = _; rw [HM.out]; show (S 10 / 2 ^ j % 2 == 1) = P1; rw [HP.out]; exact B1.out
    cases P1
    · have lw := low_walk n
      obtain ⟨lo, hlo2⟩ : ∃ lo, lowI n = lo := ⟨_, rfl⟩
      rw [hlo2] at lw hlo'
      clear hlo hlo2 hm3 hm1 hm0
      go_enter Try.func13, Try.ntmps13
      go_wp2_with fail
      refine (HT.out _).mono ?_; rintro e w2 ⟨rfl, hb⟩
      replace R := Lib.hid (R.out.below hb (by rw [sz_alloc]; omega))
      replace HB := Lib.hid (below_step hb HB.out HB.out.size)
      clear hb HT
      have c10 := R.out.cell 10
      rw [cs_u S 10 (by unfold isU; decide)] at c10
      have c19 := R.out.cell 19
      rw [cs_u S 19 (by unfold isU; decide)] at c19
      go_wp2_with fail
      go_ret
      exact retB_mk (by rw [HM.out]) HB.out
    · have lw := low_walk n
      obtain ⟨lo, hlo2⟩ : ∃ lo, lowI n = lo := ⟨_, rfl⟩
      rw [hlo2] at lw hlo'
      clear hlo hlo2 hm3 hm1 hm0
      go_enter Try.func13, Try.ntmps13
      go_wp2_with fail
      refine (HT.out _).mono ?_; rintro e w2 ⟨rfl, hb⟩
      replace R := Lib.hid (R.out.below hb (by rw [sz_alloc]; omega))
      replace HB := Lib.hid (below_step hb HB.out HB.out.size)
      clear hb HT
      have c10 := R.out.cell 10
      rw [cs_u S 10 (by unfold isU; decide)] at c10
      have c19 := R.out.cell 19
      rw [cs_u S 19 (by unfold isU; decide)] at c19
      go_wp2_with fail
      go_ret
      exact retB_mk (by rw [HM.out]) HB.out
  · have em := hm0 h h'
    have f3 : (mode == 3) = false := by rw [beq_eq_false_iff_ne]; exact h
    have f1 : (mode == 1) = false := by rw [beq_eq_false_iff_ne]; exact h'
    have f3n : (mode != 3) = true := by simp [h]
    have f1n : (mode != 1) = true := by simp [h']
    clear h h'
    have hlo' : ¬ (0 < lowI n) := by have := hlo.out; rw [em] at this; exact this
    replace HM : Hid (mayF S mode n false = (Q1 && P1)) := by show _ = _; rw [HM.out, em]; show ((S 19 &&& S 10) / 2 ^ j % 2 == 1) = (Q1 && P1); rw [HAB.out, HP.out, HQ.out, B1.out, B2.out]
    cases P1
    · cases Q1
      · clear em
        have lw := low_walk n
        obtain ⟨lo, hlo2⟩ : ∃ lo, lowI n = lo := ⟨_, rfl⟩
        rw [hlo2] at lw hlo'
        clear hlo hlo2 hm3 hm1 hm0
        go_enter Try.func13, Try.ntmps13
        go_wp2_with fail
        refine (HT.out _).mono ?_; rintro e w2 ⟨rfl, hb⟩
        replace R := Lib.hid (R.out.below hb (by rw [sz_alloc]; omega))
        replace HB := Lib.hid (below_step hb HB.out HB.out.size)
        clear hb HT
        have c10 := R.out.cell 10
        rw [cs_u S 10 (by unfold isU; decide)] at c10
        have c19 := R.out.cell 19
        rw [cs_u S 19 (by unfold isU; decide)] at c19
        go_wp2_with fail
        go_ret
        exact retB_mk (by rw [HM.out]; rfl) HB.out
      · clear em
        have lw := low_walk n
        obtain ⟨lo, hlo2⟩ : ∃ lo, lowI n = lo := ⟨_, rfl⟩
        rw [hlo2] at lw hlo'
        clear hlo hlo2 hm3 hm1 hm0
        go_enter Try.func13, Try.ntmps13
        go_wp2_with fail
        refine (HT.out _).mono ?_; rintro e w2 ⟨rfl, hb⟩
        replace R := Lib.hid (R.out.below hb (by rw [sz_alloc]; omega))
        replace HB := Lib.hid (below_step hb HB.out HB.out.size)
        clear hb HT
        have c10 := R.out.cell 10
        rw [cs_u S 10 (by unfold isU; decide)] at c10
        have c19 := R.out.cell 19
        rw [cs_u S 19 (by unfold isU; decide)] at c19
        go_wp2_with fail
        go_ret
        exact retB_mk (by rw [HM.out]; rfl) HB.out
    · cases Q1
      · clear em
        have lw := low_walk n
        obtain ⟨lo, hlo2⟩ : ∃ lo, lowI n = lo := ⟨_, rfl⟩
        rw [hlo2] at lw hlo'
        clear hlo hlo2 hm3 hm1 hm0
        go_enter Try.func13, Try.ntmps13
        go_wp2_with fail
        refine (HT.out _).mono ?_; rintro e w2 ⟨rfl, hb⟩
        replace R := Lib.hid (R.out.below hb (by rw [sz_alloc]; omega))
        replace HB := Lib.hid (below_step hb HB.out HB.out.size)
        clear hb HT
        have c10 := R.out.cell 10
        rw [cs_u S 10 (by unfold isU; decide)] at c10
        have c19 := R.out.cell 19
        rw [cs_u S 19 (by unfold isU; decide)] at c19
        go_wp2_with fail
        go_ret
        exact retB_mk (by rw [HM.out]; rfl) HB.out
      · clear em
        have lw := low_walk n
        obtain ⟨lo, hlo2⟩ : ∃ lo, lowI n = lo := ⟨_, rfl⟩
        rw [hlo2] at lw hlo'
        clear hlo hlo2 hm3 hm1 hm0
        go_enter Try.func13, Try.ntmps13
        go_wp2_with fail
        refine (HT.out _).mono ?_; rintro e w2 ⟨rfl, hb⟩
        replace R := Lib.hid (R.out.below hb (by rw [sz_alloc]; omega))
        replace HB := Lib.hid (below_step hb HB.out HB.out.size)
        clear hb HT
        have c10 := R.out.cell 10
        rw [cs_u S 10 (by unfold isU; decide)] at c10
        have c19 := R.out.cell 19
        rw [cs_u S 19 (by unfold isU; decide)] at c19
        go_wp2_with fail
        go_ret
        exact retB_mk (by rw [HM.out]; rfl) HB.out
set_option maxRecDepth 100000 in
theorem mayr_count_w (S : Nat → Nat) (mode n : Int) (write : Bool) (hS : Hid (OkS S)) (hmd : mode = 3 ∨ mode = 1 ∨ (¬ mode = 3 ∧ ¬ mode = 1)) (ht : Hid (thereB n = true)) (hlo : Hid (¬ takenN mode < lowI n)) (hw : Hid (write = true)) (hf : Hid (fixB n = false)) (h1 : Hid (inB n 1 3 = false)) (h2 : Hid (¬ n = 384)) (h3 : Hid (inB n 3072 3103 = true)) (w : World) : Calls Try.prog 13 #[.agg (cs S), .int .i64 mode, .int .i64 n, .bool write] w (RetB (mayF S mode n write) w) := by
  have R : Hid (Row (w.alloc (Obj.cells (cs S) 26)) w.heap.size 26 (cs S)) := row_new _ _ _
  have HB : Hid (Below w.heap.size w (w.alloc (Obj.cells (cs S) 26))) := by show Below _ _ _; exact (by repeat (first | (with_reducible first | exact Below.refl _ _ | assumption | exact Nat.le_refl _ | refine Below.drew ?_ | refine Below.alloc ?_ ?_ _ | refine Below.setCell ?_ ?_ _ | refine le_alloc ?_ | refine le_set ?_ | refine le_drew ?_ | refine below_step (by assumption) ?_ ?_ | refine le_below (by assumption) ?_) | (dsimp only; omega)))
  have HT := Lib.hid (fun u => there_r n u)
  have HF := Lib.hid (fun u => fixed_r n u)
  have HM : Hid (mayF S mode n write = if noB (takenN mode) n write = true then false else moreB S (takenN mode) n) := rfl
  have hm3 : mode = 3 → takenN mode = 3 := fun h => by subst h; rfl
  have hm1 : mode = 1 → takenN mode = 1 := fun h => by subst h; rfl
  have hm0 : ¬ mode = 3 → ¬ mode = 1 → takenN mode = 0 := fun h h' => by unfold takenN; rw [if_neg h, if_neg h']
  obtain rfl := hw.out
  have ge := there_ge ht.out
  rw [ht.out] at HT
  rw [hf.out] at HF
  replace HM : Hid (mayF S mode n true = moreB S (takenN mode) n) := by show _ = _; rw [HM.out]; unfold noB; rw [ht.out, show decide (takenN mode < lowI n) = false from decide_eq_false hlo.out, hf.out]; rfl
  clear ht hw hf
  have n3 : ¬ n ≤ 3 := fun h => by have := (in_iff n 1 3).2 ⟨ge, h⟩; rw [h1.out] at this; cases this
  have n384 : (n == 384) = false := by rw [beq_eq_false_iff_ne]; exact h2.out
  have h3' := (in_iff n 3072 3103).1 h3.out
  have g1 := h3'.1
  have g2 := h3'.2
  obtain ⟨a1, j32⟩ := and31 n h3.out
  replace HM : Hid (mayF S mode n true = (ctrN S (takenN mode) / 2 ^ (n - 3072).toNat % 2 == 1)) := by show _ = _; rw [HM.out]; unfold moreB ctrB; rw [h1.out, h3.out, if_neg (by decide), if_neg h2.out, if_pos rfl]
  obtain ⟨j, hj⟩ : ∃ j, (n - 3072).toNat = j := ⟨_, rfl⟩
  rw [hj] at a1 j32 HM
  have a2 := shr_bit (S 10) j (hS.out.u 10 (by decide))
  have a3 := shr_bit (S 19) j (hS.out.u 19 (by decide))
  have HAB := Lib.hid (and_bit (S 19) (S 10) j)
  have H63 : Hid (18446744073709551615 / 2 ^ j % 2 = 1) := by
    show _ = _
    have h : ∀ j : Fin 32, 18446744073709551615 / 2 ^ j.val % 2 = 1 := by decide +kernel
    exact h ⟨j, j32⟩
  obtain ⟨p, hp⟩ : ∃ p, S 10 / 2 ^ j % 2 = p := ⟨_, rfl⟩
  obtain ⟨q, hq⟩ : ∃ q, S 19 / 2 ^ j % 2 = q := ⟨_, rfl⟩
  rw [hp] at a2; rw [hq] at a3
  have HP := Lib.hid hp; have HQ := Lib.hid hq
  have b1 := Lib.hid (cast_beq p 1)
  have b2 := Lib.hid (cast_beq q 1)
  obtain ⟨P1, hP1⟩ : ∃ P1, ((p : Int) == 1) = P1 := ⟨_, rfl⟩
  obtain ⟨Q1, hQ1⟩ : ∃ Q1, ((q : Int) == 1) = Q1 := ⟨_, rfl⟩
  have B1 : Hid ((p == 1) = P1) := by show _ = _; rw [← hP1]; exact b1.out.symm
  have B2 : Hid ((q == 1) = Q1) := by show _ = _; rw [← hQ1]; exact b2.out.symm
  have j63 : (j : Int) < 64 := by omega
  have jn : ((j : Nat) : Int).toNat = j := by omega
  clear hp hq hj h1 h2 h3 h3' j32 ge b1 b2
  rcases hmd with h | h | ⟨h, h'⟩
  · subst h
    have hlo' : ¬ (3 < lowI n) := hlo.out
    replace HM : Hid (mayF S 3 n true = true) := by show _ = _; rw [HM.out]; show (18446744073709551615 / 2 ^ j % 2 == 1) = true; rw [H63.out]; rfl
    have lw := low_walk n
    obtain ⟨lo, hlo2⟩ : ∃ lo, lowI n = lo := ⟨_, rfl⟩
    rw [hlo2] at lw hlo'
    clear hlo hlo2 hm3 hm1 hm0
    go_enter Try.func13, Try.ntmps13
    go_wp2_with fail
    refine (HT.out _).mono ?_; rintro e w2 ⟨rfl, hb⟩
    replace R := Lib.hid (R.out.below hb (by rw [sz_alloc]; omega))
    replace HB := Lib.hid (below_step hb HB.out HB.out.size)
    clear hb HT
    have c10 := R.out.cell 10
    rw [cs_u S 10 (by unfold isU; decide)] at c10
    have c19 := R.out.cell 19
    rw [cs_u S 19 (by unfold isU; decide)] at c19
    go_wp2_with fail
    refine (HF.out _).mono ?_; rintro e w9 ⟨rfl, h⟩; replace h := h.symm; subst h
    go_wp2_with fail
    go_ret
    exact retB_mk (by rw [HM.out]) HB.out
  · subst h
    have hlo' : ¬ (1 < lowI n) := hlo.out
    replace HM : Hid (mayF S 1 n true = P1) := by show _ = _; rw [HM.out]; show (S 10 / 2 ^ j % 2 == 1) = P1; rw [HP.out]; exact B1.out
    cases P1
    · have lw := low_walk n
      obtain ⟨lo, hlo2⟩ : ∃ lo, lowI n = lo := ⟨_, rfl⟩
      rw [hlo2] at lw hlo'
      clear hlo hlo2 hm3 hm1 hm0
      go_enter Try.func13, Try.ntmps13
      go_wp2_with fail
      refine (HT.out _).mono ?_; rintro e w2 ⟨rfl, hb⟩
      replace R := Lib.hid (R.out.below hb (by rw [sz_alloc]; omega))
      replace HB := Lib.hid (below_step hb HB.out HB.out.size)
      clear hb HT
      have c10 := R.out.cell 10
      rw [cs_u S 10 (by unfold isU; decide)] at c10
      have c19 := R.out.cell 19
      rw [cs_u S 19 (by unfold isU; decide)] at c19
      go_wp2_with fail
      refine (HF.out _).mono ?_; rintro e w9 ⟨rfl, h⟩; replace h := h.symm; subst h
      go_wp2_with fail
      go_ret
      exact retB_mk (by rw [HM.out]) HB.out
    · have lw := low_walk n
      obtain ⟨lo, hlo2⟩ : ∃ lo, lowI n = lo := ⟨_, rfl⟩
      rw [hlo2] at lw hlo'
      clear hlo hlo2 hm3 hm1 hm0
      go_enter Try.func13, Try.ntmps13
      go_wp2_with fail
      refine (HT.out _).mono ?_; rintro e w2 ⟨rfl, hb⟩
      replace R := Lib.hid (R.out.below hb (by rw [sz_alloc]; omega))
      replace HB := Lib.hid (below_step hb HB.out HB.out.size)
      clear hb HT
      have c10 := R.out.cell 10
      rw [cs_u S 10 (by unfold isU; decide)] at c10
      have c19 := R.out.cell 19
      rw [cs_u S 19 (by unfold isU; decide)] at c19
      go_wp2_with fail
      refine (HF.out _).mono ?_; rintro e w9 ⟨rfl, h⟩; replace h := h.symm; subst h
      go_wp2_with fail
      go_ret
      exact retB_mk (by rw [HM.out]) HB.out
  · have em := hm0 h h'
    have f3 : (mode == 3) = false := by rw [beq_eq_false_iff_ne]; exact h
    have f1 : (mode == 1) = false := by rw [beq_eq_false_iff_ne]; exact h'
    have f3n : (mode != 3) = true := by simp [h]
    have f1n : (mode != 1) = true := by simp [h']
    clear h h'
    have hlo' : ¬ (0 < lowI n) := by have := hlo.out; rw [em] at this; exact this
    replace HM : Hid (mayF S mode n true = (Q1 && P1)) := by show _ = _; rw [HM.out, em]; show ((S 19 &&& S 10) / 2 ^ j % 2 == 1) = (Q1 && P1); rw [HAB.out, HP.out, HQ.out, B1.out, B2.out]
    cases P1
    · cases Q1
      · clear em
        have lw := low_walk n
        obtain ⟨lo, hlo2⟩ : ∃ lo, lowI n = lo := ⟨_, rfl⟩
        rw [hlo2] at lw hlo'
        clear hlo hlo2 hm3 hm1 hm0
        go_enter Try.func13, Try.ntmps13
        go_wp2_with fail
        refine (HT.out _).mono ?_; rintro e w2 ⟨rfl, hb⟩
        replace R := Lib.hid (R.out.below hb (by rw [sz_alloc]; omega))
        replace HB := Lib.hid (below_step hb HB.out HB.out.size)
        clear hb HT
        have c10 := R.out.cell 10
        rw [cs_u S 10 (by unfold isU; decide)] at c10
        have c19 := R.out.cell 19
        rw [cs_u S 19 (by unfold isU; decide)] at c19
        go_wp2_with fail
        refine (HF.out _).mono ?_; rintro e w9 ⟨rfl, h⟩; replace h := h.symm; subst h
        go_wp2_with fail
        go_ret
        exact retB_mk (by rw [HM.out]; rfl) HB.out
      · clear em
        have lw := low_walk n
        obtain ⟨lo, hlo2⟩ : ∃ lo, lowI n = lo := ⟨_, rfl⟩
        rw [hlo2] at lw hlo'
        clear hlo hlo2 hm3 hm1 hm0
        go_enter Try.func13, Try.ntmps13
        go_wp2_with fail
        refine (HT.out _).mono ?_; rintro e w2 ⟨rfl, hb⟩
        replace R := Lib.hid (R.out.below hb (by rw [sz_alloc]; omega))
        replace HB := Lib.hid (below_step hb HB.out HB.out.size)
        clear hb HT
        have c10 := R.out.cell 10
        rw [cs_u S 10 (by unfold isU; decide)] at c10
        have c19 := R.out.cell 19
        rw [cs_u S 19 (by unfold isU; decide)] at c19
        go_wp2_with fail
        refine (HF.out _).mono ?_; rintro e w9 ⟨rfl, h⟩; replace h := h.symm; subst h
        go_wp2_with fail
        go_ret
        exact retB_mk (by rw [HM.out]; rfl) HB.out
    · cases Q1
      · clear em
        have lw := low_walk n
        obtain ⟨lo, hlo2⟩ : ∃ lo, lowI n = lo := ⟨_, rfl⟩
        rw [hlo2] at lw hlo'
        clear hlo hlo2 hm3 hm1 hm0
        go_enter Try.func13, Try.ntmps13
        go_wp2_with fail
        refine (HT.out _).mono ?_; rintro e w2 ⟨rfl, hb⟩
        replace R := Lib.hid (R.out.below hb (by rw [sz_alloc]; omega))
        replace HB := Lib.hid (below_step hb HB.out HB.out.size)
        clear hb HT
        have c10 := R.out.cell 10
        rw [cs_u S 10 (by unfold isU; decide)] at c10
        have c19 := R.out.cell 19
        rw [cs_u S 19 (by unfold isU; decide)] at c19
        go_wp2_with fail
        refine (HF.out _).mono ?_; rintro e w9 ⟨rfl, h⟩; replace h := h.symm; subst h
        go_wp2_with fail
        go_ret
        exact retB_mk (by rw [HM.out]; rfl) HB.out
      · clear em
        have lw := low_walk n
        obtain ⟨lo, hlo2⟩ : ∃ lo, lowI n = lo := ⟨_, rfl⟩
        rw [hlo2] at lw hlo'
        clear hlo hlo2 hm3 hm1 hm0
        go_enter Try.func13, Try.ntmps13
        go_wp2_with fail
        refine (HT.out _).mono ?_; rintro e w2 ⟨rfl, hb⟩
        replace R := Lib.hid (R.out.below hb (by rw [sz_alloc]; omega))
        replace HB := Lib.hid (below_step hb HB.out HB.out.size)
        clear hb HT
        have c10 := R.out.cell 10
        rw [cs_u S 10 (by unfold isU; decide)] at c10
        have c19 := R.out.cell 19
        rw [cs_u S 19 (by unfold isU; decide)] at c19
        go_wp2_with fail
        refine (HF.out _).mono ?_; rintro e w9 ⟨rfl, h⟩; replace h := h.symm; subst h
        go_wp2_with fail
        go_ret
        exact retB_mk (by rw [HM.out]; rfl) HB.out
set_option maxRecDepth 100000 in
theorem mayr_else_r (S : Nat → Nat) (mode n : Int) (write : Bool) (hS : Hid (OkS S)) (hmd : mode = 3 ∨ mode = 1 ∨ (¬ mode = 3 ∧ ¬ mode = 1)) (ht : Hid (thereB n = true)) (hlo : Hid (¬ takenN mode < lowI n)) (hw : Hid (write = false)) (h1 : Hid (inB n 1 3 = false)) (h2 : Hid (¬ n = 384)) (h3 : Hid (inB n 3072 3103 = false)) (w : World) : Calls Try.prog 13 #[.agg (cs S), .int .i64 mode, .int .i64 n, .bool write] w (RetB (mayF S mode n write) w) := by
  have R : Hid (Row (w.alloc (Obj.cells (cs S) 26)) w.heap.size 26 (cs S)) := row_new _ _ _
  have HB : Hid (Below w.heap.size w (w.alloc (Obj.cells (cs S) 26))) := by show Below _ _ _; exact (by repeat (first | (with_reducible first | exact Below.refl _ _ | assumption | exact Nat.le_refl _ | refine Below.drew ?_ | refine Below.alloc ?_ ?_ _ | refine Below.setCell ?_ ?_ _ | refine le_alloc ?_ | refine le_set ?_ | refine le_drew ?_ | refine below_step (by assumption) ?_ ?_ | refine le_below (by assumption) ?_) | (dsimp only; omega)))
  have HT := Lib.hid (fun u => there_r n u)
  have HF := Lib.hid (fun u => fixed_r n u)
  have HM : Hid (mayF S mode n write = if noB (takenN mode) n write = true then false else moreB S (takenN mode) n) := rfl
  have hm3 : mode = 3 → takenN mode = 3 := fun h => by subst h; rfl
  have hm1 : mode = 1 → takenN mode = 1 := fun h => by subst h; rfl
  have hm0 : ¬ mode = 3 → ¬ mode = 1 → takenN mode = 0 := fun h h' => by unfold takenN; rw [if_neg h, if_neg h']
  obtain rfl := hw.out
  have ge := there_ge ht.out
  rw [ht.out] at HT
  replace HM : Hid (mayF S mode n false = moreB S (takenN mode) n) := by show _ = _; rw [HM.out]; unfold noB; rw [ht.out, show decide (takenN mode < lowI n) = false from decide_eq_false hlo.out]; rfl
  clear ht hw
  have n3 : ¬ n ≤ 3 := fun h => by have := (in_iff n 1 3).2 ⟨ge, h⟩; rw [h1.out] at this; cases this
  have n384 : (n == 384) = false := by rw [beq_eq_false_iff_ne]; exact h2.out
  replace HM : Hid (mayF S mode n false = true) := by show _ = _; rw [HM.out]; unfold moreB; rw [h1.out, h3.out, if_neg (by decide), if_neg h2.out, if_neg (by decide)]
  have g : Hid (¬ (3072 ≤ n ∧ n ≤ 3103)) := fun h => by have := (in_iff n 3072 3103).2 h; rw [h3.out] at this; cases this
  clear h1 h2 h3 ge
  by_cases g1 : 3072 ≤ n
  · have g2 : ¬ n ≤ 3103 := fun h => g.out ⟨g1, h⟩
    rcases hmd with h | h | ⟨h, h'⟩
    · subst h
      have hlo' : ¬ (3 < lowI n) := hlo.out
      have lw := low_walk n
      obtain ⟨lo, hlo2⟩ : ∃ lo, lowI n = lo := ⟨_, rfl⟩
      rw [hlo2] at lw hlo'
      clear hlo hlo2 hm3 hm1 hm0
      go_enter Try.func13, Try.ntmps13
      go_wp2_with fail
      refine (HT.out _).mono ?_; rintro e w2 ⟨rfl, hb⟩
      replace R := Lib.hid (R.out.below hb (by rw [sz_alloc]; omega))
      replace HB := Lib.hid (below_step hb HB.out HB.out.size)
      clear hb HT
      go_wp2_with fail
      go_ret
      exact retB_mk (by rw [HM.out]) HB.out
    · subst h
      have hlo' : ¬ (1 < lowI n) := hlo.out
      have lw := low_walk n
      obtain ⟨lo, hlo2⟩ : ∃ lo, lowI n = lo := ⟨_, rfl⟩
      rw [hlo2] at lw hlo'
      clear hlo hlo2 hm3 hm1 hm0
      go_enter Try.func13, Try.ntmps13
      go_wp2_with fail
      refine (HT.out _).mono ?_; rintro e w2 ⟨rfl, hb⟩
      replace R := Lib.hid (R.out.below hb (by rw [sz_alloc]; omega))
      replace HB := Lib.hid (below_step hb HB.out HB.out.size)
      clear hb HT
      go_wp2_with fail
      go_ret
      exact retB_mk (by rw [HM.out]) HB.out
    · have em := hm0 h h'
      have f3 : (mode == 3) = false := by rw [beq_eq_false_iff_ne]; exact h
      have f1 : (mode == 1) = false := by rw [beq_eq_false_iff_ne]; exact h'
      have f3n : (mode != 3) = true := by simp [h]
      have f1n : (mode != 1) = true := by simp [h']
      clear h h'
      have hlo' : ¬ (0 < lowI n) := by have := hlo.out; rw [em] at this; exact this
      clear em
      have lw := low_walk n
      obtain ⟨lo, hlo2⟩ : ∃ lo, lowI n = lo := ⟨_, rfl⟩
      rw [hlo2] at lw hlo'
      clear hlo hlo2 hm3 hm1 hm0
      go_enter Try.func13, Try.ntmps13
      go_wp2_with fail
      refine (HT.out _).mono ?_; rintro e w2 ⟨rfl, hb⟩
      replace R := Lib.hid (R.out.below hb (by rw [sz_alloc]; omega))
      replace HB := Lib.hid (below_step hb HB.out HB.out.size)
      clear hb HT
      go_wp2_with fail
      go_ret
      exact retB_mk (by rw [HM.out]) HB.out
  · rcases hmd with h | h | ⟨h, h'⟩
    · subst h
      have hlo' : ¬ (3 < lowI n) := hlo.out
      have lw := low_walk n
      obtain ⟨lo, hlo2⟩ : ∃ lo, lowI n = lo := ⟨_, rfl⟩
      rw [hlo2] at lw hlo'
      clear hlo hlo2 hm3 hm1 hm0
      go_enter Try.func13, Try.ntmps13
      go_wp2_with fail
      refine (HT.out _).mono ?_; rintro e w2 ⟨rfl, hb⟩
      replace R := Lib.hid (R.out.below hb (by rw [sz_alloc]; omega))
      replace HB := Lib.hid (below_step hb HB.out HB.out.size)
      clear hb HT
      go_wp2_with fail
      go_ret
      exact retB_mk (by rw [HM.out]) HB.out
    · subst h
      have hlo' : ¬ (1 < lowI n) := hlo.out
      have lw := low_walk n
      obtain ⟨lo, hlo2⟩ : ∃ lo, lowI n = lo := ⟨_, rfl⟩
      rw [hlo2] at lw hlo'
      clear hlo hlo2 hm3 hm1 hm0
      go_enter Try.func13, Try.ntmps13
      go_wp2_with fail
      refine (HT.out _).mono ?_; rintro e w2 ⟨rfl, hb⟩
      replace R := Lib.hid (R.out.below hb (by rw [sz_alloc]; omega))
      replace HB := Lib.hid (below_step hb HB.out HB.out.size)
      clear hb HT
      go_wp2_with fail
      go_ret
      exact retB_mk (by rw [HM.out]) HB.out
    · have em := hm0 h h'
      have f3 : (mode == 3) = false := by rw [beq_eq_false_iff_ne]; exact h
      have f1 : (mode == 1) = false := by rw [beq_eq_false_iff_ne]; exact h'
      have f3n : (mode != 3) = true := by simp [h]
      have f1n : (mode != 1) = true := by simp [h']
      clear h h'
      have hlo' : ¬ (0 < lowI n) := by have := hlo.out; rw [em] at this; exact this
      clear em
      have lw := low_walk n
      obtain ⟨lo, hlo2⟩ : ∃ lo, lowI n = lo := ⟨_, rfl⟩
      rw [hlo2] at lw hlo'
      clear hlo hlo2 hm3 hm1 hm0
      go_enter Try.func13, Try.ntmps13
      go_wp2_with fail
      refine (HT.out _).mono ?_; rintro e w2 ⟨rfl, hb⟩
      replace R := Lib.hid (R.out.below hb (by rw [sz_alloc]; omega))
      replace HB := Lib.hid (below_step hb HB.out HB.out.size)
      clear hb HT
      go_wp2_with fail
      go_ret
      exact retB_mk (by rw [HM.out]) HB.out
set_option maxRecDepth 100000 in
theorem mayr_else_w (S : Nat → Nat) (mode n : Int) (write : Bool) (hS : Hid (OkS S)) (hmd : mode = 3 ∨ mode = 1 ∨ (¬ mode = 3 ∧ ¬ mode = 1)) (ht : Hid (thereB n = true)) (hlo : Hid (¬ takenN mode < lowI n)) (hw : Hid (write = true)) (hf : Hid (fixB n = false)) (h1 : Hid (inB n 1 3 = false)) (h2 : Hid (¬ n = 384)) (h3 : Hid (inB n 3072 3103 = false)) (w : World) : Calls Try.prog 13 #[.agg (cs S), .int .i64 mode, .int .i64 n, .bool write] w (RetB (mayF S mode n write) w) := by
  have R : Hid (Row (w.alloc (Obj.cells (cs S) 26)) w.heap.size 26 (cs S)) := row_new _ _ _
  have HB : Hid (Below w.heap.size w (w.alloc (Obj.cells (cs S) 26))) := by show Below _ _ _; exact (by repeat (first | (with_reducible first | exact Below.refl _ _ | assumption | exact Nat.le_refl _ | refine Below.drew ?_ | refine Below.alloc ?_ ?_ _ | refine Below.setCell ?_ ?_ _ | refine le_alloc ?_ | refine le_set ?_ | refine le_drew ?_ | refine below_step (by assumption) ?_ ?_ | refine le_below (by assumption) ?_) | (dsimp only; omega)))
  have HT := Lib.hid (fun u => there_r n u)
  have HF := Lib.hid (fun u => fixed_r n u)
  have HM : Hid (mayF S mode n write = if noB (takenN mode) n write = true then false else moreB S (takenN mode) n) := rfl
  have hm3 : mode = 3 → takenN mode = 3 := fun h => by subst h; rfl
  have hm1 : mode = 1 → takenN mode = 1 := fun h => by subst h; rfl
  have hm0 : ¬ mode = 3 → ¬ mode = 1 → takenN mode = 0 := fun h h' => by unfold takenN; rw [if_neg h, if_neg h']
  obtain rfl := hw.out
  have ge := there_ge ht.out
  rw [ht.out] at HT
  rw [hf.out] at HF
  replace HM : Hid (mayF S mode n true = moreB S (takenN mode) n) := by show _ = _; rw [HM.out]; unfold noB; rw [ht.out, show decide (takenN mode < lowI n) = false from decide_eq_false hlo.out, hf.out]; rfl
  clear ht hw hf
  have n3 : ¬ n ≤ 3 := fun h => by have := (in_iff n 1 3).2 ⟨ge, h⟩; rw [h1.out] at this; cases this
  have n384 : (n == 384) = false := by rw [beq_eq_false_iff_ne]; exact h2.out
  replace HM : Hid (mayF S mode n true = true) := by show _ = _; rw [HM.out]; unfold moreB; rw [h1.out, h3.out, if_neg (by decide), if_neg h2.out, if_neg (by decide)]
  have g : Hid (¬ (3072 ≤ n ∧ n ≤ 3103)) := fun h => by have := (in_iff n 3072 3103).2 h; rw [h3.out] at this; cases this
  clear h1 h2 h3 ge
  by_cases g1 : 3072 ≤ n
  · have g2 : ¬ n ≤ 3103 := fun h => g.out ⟨g1, h⟩
    rcases hmd with h | h | ⟨h, h'⟩
    · subst h
      have hlo' : ¬ (3 < lowI n) := hlo.out
      have lw := low_walk n
      obtain ⟨lo, hlo2⟩ : ∃ lo, lowI n = lo := ⟨_, rfl⟩
      rw [hlo2] at lw hlo'
      clear hlo hlo2 hm3 hm1 hm0
      go_enter Try.func13, Try.ntmps13
      go_wp2_with fail
      refine (HT.out _).mono ?_; rintro e w2 ⟨rfl, hb⟩
      replace R := Lib.hid (R.out.below hb (by rw [sz_alloc]; omega))
      replace HB := Lib.hid (below_step hb HB.out HB.out.size)
      clear hb HT
      go_wp2_with fail
      refine (HF.out _).mono ?_; rintro e w9 ⟨rfl, h⟩; replace h := h.symm; subst h
      go_wp2_with fail
      go_ret
      exact retB_mk (by rw [HM.out]) HB.out
    · subst h
      have hlo' : ¬ (1 < lowI n) := hlo.out
      have lw := low_walk n
      obtain ⟨lo, hlo2⟩ : ∃ lo, lowI n = lo := ⟨_, rfl⟩
      rw [hlo2] at lw hlo'
      clear hlo hlo2 hm3 hm1 hm0
      go_enter Try.func13, Try.ntmps13
      go_wp2_with fail
      refine (HT.out _).mono ?_; rintro e w2 ⟨rfl, hb⟩
      replace R := Lib.hid (R.out.below hb (by rw [sz_alloc]; omega))
      replace HB := Lib.hid (below_step hb HB.out HB.out.size)
      clear hb HT
      go_wp2_with fail
      refine (HF.out _).mono ?_; rintro e w9 ⟨rfl, h⟩; replace h := h.symm; subst h
      go_wp2_with fail
      go_ret
      exact retB_mk (by rw [HM.out]) HB.out
    · have em := hm0 h h'
      have f3 : (mode == 3) = false := by rw [beq_eq_false_iff_ne]; exact h
      have f1 : (mode == 1) = false := by rw [beq_eq_false_iff_ne]; exact h'
      have f3n : (mode != 3) = true := by simp [h]
      have f1n : (mode != 1) = true := by simp [h']
      clear h h'
      have hlo' : ¬ (0 < lowI n) := by have := hlo.out; rw [em] at this; exact this
      clear em
      have lw := low_walk n
      obtain ⟨lo, hlo2⟩ : ∃ lo, lowI n = lo := ⟨_, rfl⟩
      rw [hlo2] at lw hlo'
      clear hlo hlo2 hm3 hm1 hm0
      go_enter Try.func13, Try.ntmps13
      go_wp2_with fail
      refine (HT.out _).mono ?_; rintro e w2 ⟨rfl, hb⟩
      replace R := Lib.hid (R.out.below hb (by rw [sz_alloc]; omega))
      replace HB := Lib.hid (below_step hb HB.out HB.out.size)
      clear hb HT
      go_wp2_with fail
      refine (HF.out _).mono ?_; rintro e w9 ⟨rfl, h⟩; replace h := h.symm; subst h
      go_wp2_with fail
      go_ret
      exact retB_mk (by rw [HM.out]) HB.out
  · rcases hmd with h | h | ⟨h, h'⟩
    · subst h
      have hlo' : ¬ (3 < lowI n) := hlo.out
      have lw := low_walk n
      obtain ⟨lo, hlo2⟩ : ∃ lo, lowI n = lo := ⟨_, rfl⟩
      rw [hlo2] at lw hlo'
      clear hlo hlo2 hm3 hm1 hm0
      go_enter Try.func13, Try.ntmps13
      go_wp2_with fail
      refine (HT.out _).mono ?_; rintro e w2 ⟨rfl, hb⟩
      replace R := Lib.hid (R.out.below hb (by rw [sz_alloc]; omega))
      replace HB := Lib.hid (below_step hb HB.out HB.out.size)
      clear hb HT
      go_wp2_with fail
      refine (HF.out _).mono ?_; rintro e w9 ⟨rfl, h⟩; replace h := h.symm; subst h
      go_wp2_with fail
      go_ret
      exact retB_mk (by rw [HM.out]) HB.out
    · subst h
      have hlo' : ¬ (1 < lowI n) := hlo.out
      have lw := low_walk n
      obtain ⟨lo, hlo2⟩ : ∃ lo, lowI n = lo := ⟨_, rfl⟩
      rw [hlo2] at lw hlo'
      clear hlo hlo2 hm3 hm1 hm0
      go_enter Try.func13, Try.ntmps13
      go_wp2_with fail
      refine (HT.out _).mono ?_; rintro e w2 ⟨rfl, hb⟩
      replace R := Lib.hid (R.out.below hb (by rw [sz_alloc]; omega))
      replace HB := Lib.hid (below_step hb HB.out HB.out.size)
      clear hb HT
      go_wp2_with fail
      refine (HF.out _).mono ?_; rintro e w9 ⟨rfl, h⟩; replace h := h.symm; subst h
      go_wp2_with fail
      go_ret
      exact retB_mk (by rw [HM.out]) HB.out
    · have em := hm0 h h'
      have f3 : (mode == 3) = false := by rw [beq_eq_false_iff_ne]; exact h
      have f1 : (mode == 1) = false := by rw [beq_eq_false_iff_ne]; exact h'
      have f3n : (mode != 3) = true := by simp [h]
      have f1n : (mode != 1) = true := by simp [h']
      clear h h'
      have hlo' : ¬ (0 < lowI n) := by have := hlo.out; rw [em] at this; exact this
      clear em
      have lw := low_walk n
      obtain ⟨lo, hlo2⟩ : ∃ lo, lowI n = lo := ⟨_, rfl⟩
      rw [hlo2] at lw hlo'
      clear hlo hlo2 hm3 hm1 hm0
      go_enter Try.func13, Try.ntmps13
      go_wp2_with fail
      refine (HT.out _).mono ?_; rintro e w2 ⟨rfl, hb⟩
      replace R := Lib.hid (R.out.below hb (by rw [sz_alloc]; omega))
      replace HB := Lib.hid (below_step hb HB.out HB.out.size)
      clear hb HT
      go_wp2_with fail
      refine (HF.out _).mono ?_; rintro e w9 ⟨rfl, h⟩; replace h := h.symm; subst h
      go_wp2_with fail
      go_ret
      exact retB_mk (by rw [HM.out]) HB.out
theorem may_r (S : Nat → Nat) (mode n : Int) (write : Bool) (hS : Hid (OkS S)) (w : World) : Calls Try.prog 13 #[.agg (cs S), .int .i64 mode, .int .i64 n, .bool write] w (RetB (mayF S mode n write) w) := by
  have hmd : mode = 3 ∨ mode = 1 ∨ (¬ mode = 3 ∧ ¬ mode = 1) := by omega
  cases ht : thereB n with
  | false => exact mayr_no_there S mode n write hS hmd ht w
  | true =>
    by_cases hlo : takenN mode < lowI n
    · exact mayr_no_low S mode n write hS hmd ht hlo w
    · cases write with
      | false =>
        cases h1 : inB n 1 3 with
        | true => exact mayr_float_r S mode n false hS hmd ht hlo rfl h1 w
        | false =>
          by_cases h2 : n = 384
          · exact mayr_satp_r S mode n false hS hmd ht hlo rfl h1 h2 w
          · cases h3 : inB n 3072 3103 with
            | true => exact mayr_count_r S mode n false hS hmd ht hlo rfl h1 h2 h3 w
            | false => exact mayr_else_r S mode n false hS hmd ht hlo rfl h1 h2 h3 w
      | true =>
        cases hf : fixB n with
        | true => exact mayr_no_write S mode n true hS hmd ht hlo rfl hf w
        | false =>
          cases h1 : inB n 1 3 with
          | true => exact mayr_float_w S mode n true hS hmd ht hlo rfl hf h1 w
          | false =>
            by_cases h2 : n = 384
            · exact mayr_satp_w S mode n true hS hmd ht hlo rfl hf h1 h2 w
            · cases h3 : inB n 3072 3103 with
              | true => exact mayr_count_w S mode n true hS hmd ht hlo rfl hf h1 h2 h3 w
              | false => exact mayr_else_w S mode n true hS hmd ht hlo rfl hf h1 h2 h3 w
end Go.Proofs.Ytmlbobjbkbcabaa
