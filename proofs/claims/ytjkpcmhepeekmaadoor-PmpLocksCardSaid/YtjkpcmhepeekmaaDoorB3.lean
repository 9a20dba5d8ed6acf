/- isAccess; Check. -/
import Derived.Test.YtjkpcmhepeekmaaDoorR2
import Derived.LoopTactic
import Derived.Deep.LoopGhost
import Derived.Laws.Rows
namespace Go.Proofs.YtjkpcmhepeekmaaDoor
open Go.ChangeShapes Go.WideShapes Go.ChangeAt Go.RowKit
set_option linter.unusedVariables false
set_option linter.unusedSimpArgs false
/-- An access that is one. -/
def Acc (kind : Int) (x : Nat) (size : Int) (k s : Nat) : Prop := kind = k ∧ k < 4 ∧ size = s ∧ (s = 1 ∨ s = 2 ∨ s = 4 ∨ s = 8) ∧ x + s ≤ 18446744073709551616
theorem acc_y {kind : Int} {x : Nat} {size : Int} (h : accB kind x size = true) : ∃ k s : Nat, Acc kind x size k s := by
  unfold accB at h
  simp only [Bool.and_eq_true, Bool.or_eq_true, decide_eq_true_eq] at h
  obtain ⟨⟨⟨h1, h2⟩, h3⟩, h4⟩ := h
  refine ⟨kind.toNat, size.toNat, by omega, by omega, by omega, by omega, by omega⟩
theorem acc_k {kind : Int} {x : Nat} {size : Int} {k s : Nat} (h : Acc kind x size k s) : accB kind x size = true := by
  obtain ⟨rfl, h1, rfl, h2, h3⟩ := h
  unfold accB
  simp only [Bool.and_eq_true, Bool.or_eq_true, decide_eq_true_eq]
  omega
theorem acc_n {kind : Int} {x : Nat} {size : Int} (h : accB kind x size = false) : (size ≠ 1 ∧ size ≠ 2 ∧ size ≠ 4 ∧ size ≠ 8) ∨ ((size = 1 ∨ size = 2 ∨ size = 4 ∨ size = 8) ∧ kind < 0) ∨ ((size = 1 ∨ size = 2 ∨ size = 4 ∨ size = 8) ∧ 0 ≤ kind ∧ 3 < kind) ∨ ((size = 1 ∨ size = 2 ∨ size = 4 ∨ size = 8) ∧ 0 ≤ kind ∧ kind ≤ 3 ∧ 18446744073709551616 ≤ (x : Int) + size - 1) := by
  have h' : ¬ accB kind x size = true := by rw [h]; decide
  unfold accB at h'
  simp only [Bool.and_eq_true, Bool.or_eq_true, decide_eq_true_eq] at h'
  omega

theorem isAccess_1y (k x : Nat) (h1 : k < 4) (hx : Hid (x < 18446744073709551616)) (h3 : Hid (x + 1 ≤ 18446744073709551616)) (w : World) : Calls Tryd.prog 25 #[.int .i64 k, .int .u64 x, .int .i64 1] w (RetBX true w) := by
  have k0 : (0 : Int) ≤ k := by omega
  have k3 : (k : Int) ≤ 3 := by omega
  have hx := hx.out
  have h3 := h3.out
  obtain ⟨y, hy⟩ : ∃ y, y = x + 1 - 1 := ⟨_, rfl⟩
  have b1 : IntKind.u64.wrap (IntKind.u64.wrap ((x : Int) + 1) - 1) = (y : Int) := by rw [IntKind.wrap_u64, IntKind.wrap_u64]; omega
  have b2 : (x : Int) ≤ y := by omega
  clear hx h3 hy h1
  go_enter Tryd.func25, Tryd.ntmps25
  go_wp2_with fail
  go_ret
  exact retBX_mk rfl
theorem isAccess_1n (k x : Nat) (h1 : k < 4) (hx : Hid (x < 18446744073709551616)) (h3 : Hid (18446744073709551616 < x + 1)) (w : World) : Calls Tryd.prog 25 #[.int .i64 k, .int .u64 x, .int .i64 1] w (RetBX false w) := by
  have k0 : (0 : Int) ≤ k := by omega
  have k3 : (k : Int) ≤ 3 := by omega
  have hx := hx.out
  have h3 := h3.out
  obtain ⟨y, hy⟩ : ∃ y, y = x + 1 - 1 - 18446744073709551616 := ⟨_, rfl⟩
  have b1 : IntKind.u64.wrap (IntKind.u64.wrap ((x : Int) + 1) - 1) = (y : Int) := by rw [IntKind.wrap_u64, IntKind.wrap_u64]; omega
  have b2 : ¬ ((x : Int) ≤ y) := by omega
  clear hx h3 hy h1
  go_enter Tryd.func25, Tryd.ntmps25
  go_wp2_with fail
  go_ret
  exact retBX_mk rfl
theorem isAccess_2y (k x : Nat) (h1 : k < 4) (hx : Hid (x < 18446744073709551616)) (h3 : Hid (x + 2 ≤ 18446744073709551616)) (w : World) : Calls Tryd.prog 25 #[.int .i64 k, .int .u64 x, .int .i64 2] w (RetBX true w) := by
  have k0 : (0 : Int) ≤ k := by omega
  have k3 : (k : Int) ≤ 3 := by omega
  have hx := hx.out
  have h3 := h3.out
  obtain ⟨y, hy⟩ : ∃ y, y = x + 2 - 1 := ⟨_, rfl⟩
  have b1 : IntKind.u64.wrap (IntKind.u64.wrap ((x : Int) + 2) - 1) = (y : Int) := by rw [IntKind.wrap_u64, IntKind.wrap_u64]; omega
  have b2 : (x : Int) ≤ y := by omega
  clear hx h3 hy h1
  go_enter Tryd.func25, Tryd.ntmps25
  go_wp2_with fail
  go_ret
  exact retBX_mk rfl
theorem isAccess_2n (k x : Nat) (h1 : k < 4) (hx : Hid (x < 18446744073709551616)) (h3 : Hid (18446744073709551616 < x + 2)) (w : World) : Calls Tryd.prog 25 #[.int .i64 k, .int .u64 x, .int .i64 2] w (RetBX false w) := by
  have k0 : (0 : Int) ≤ k := by omega
  have k3 : (k : Int) ≤ 3 := by omega
  have hx := hx.out
  have h3 := h3.out
  obtain ⟨y, hy⟩ : ∃ y, y = x + 2 - 1 - 18446744073709551616 := ⟨_, rfl⟩
  have b1 : IntKind.u64.wrap (IntKind.u64.wrap ((x : Int) + 2) - 1) = (y : Int) := by rw [IntKind.wrap_u64, IntKind.wrap_u64]; omega
  have b2 : ¬ ((x : Int) ≤ y) := by omega
  clear hx h3 hy h1
  go_enter Tryd.func25, Tryd.ntmps25
  go_wp2_with fail
  go_ret
  exact retBX_mk rfl
theorem isAccess_4y (k x : Nat) (h1 : k < 4) (hx : Hid (x < 18446744073709551616)) (h3 : Hid (x + 4 ≤ 18446744073709551616)) (w : World) : Calls Tryd.prog 25 #[.int .i64 k, .int .u64 x, .int .i64 4] w (RetBX true w) := by
  have k0 : (0 : Int) ≤ k := by omega
  have k3 : (k : Int) ≤ 3 := by omega
  have hx := hx.out
  have h3 := h3.out
  obtain ⟨y, hy⟩ : ∃ y, y = x + 4 - 1 := ⟨_, rfl⟩
  have b1 : IntKind.u64.wrap (IntKind.u64.wrap ((x : Int) + 4) - 1) = (y : Int) := by rw [IntKind.wrap_u64, IntKind.wrap_u64]; omega
  have b2 : (x : Int) ≤ y := by omega
  clear hx h3 hy h1
  go_enter Tryd.func25, Tryd.ntmps25
  go_wp2_with fail
  go_ret
  exact retBX_mk rfl
theorem isAccess_4n (k x : Nat) (h1 : k < 4) (hx : Hid (x < 18446744073709551616)) (h3 : Hid (18446744073709551616 < x + 4)) (w : World) : Calls Tryd.prog 25 #[.int .i64 k, .int .u64 x, .int .i64 4] w (RetBX false w) := by
  have k0 : (0 : Int) ≤ k := by omega
  have k3 : (k : Int) ≤ 3 := by omega
  have hx := hx.out
  have h3 := h3.out
  obtain ⟨y, hy⟩ : ∃ y, y = x + 4 - 1 - 18446744073709551616 := ⟨_, rfl⟩
  have b1 : IntKind.u64.wrap (IntKind.u64.wrap ((x : Int) + 4) - 1) = (y : Int) := by rw [IntKind.wrap_u64, IntKind.wrap_u64]; omega
  have b2 : ¬ ((x : Int) ≤ y) := by omega
  clear hx h3 hy h1
  go_enter Tryd.func25, Tryd.ntmps25
  go_wp2_with fail
  go_ret
  exact retBX_mk rfl
theorem isAccess_8y (k x : Nat) (h1 : k < 4) (hx : Hid (x < 18446744073709551616)) (h3 : Hid (x + 8 ≤ 18446744073709551616)) (w : World) : Calls Tryd.prog 25 #[.int .i64 k, .int .u64 x, .int .i64 8] w (RetBX true w) := by
  have k0 : (0 : Int) ≤ k := by omega
  have k3 : (k : Int) ≤ 3 := by omega
  have hx := hx.out
  have h3 := h3.out
  obtain ⟨y, hy⟩ : ∃ y, y = x + 8 - 1 := ⟨_, rfl⟩
  have b1 : IntKind.u64.wrap (IntKind.u64.wrap ((x : Int) + 8) - 1) = (y : Int) := by rw [IntKind.wrap_u64, IntKind.wrap_u64]; omega
  have b2 : (x : Int) ≤ y := by omega
  clear hx h3 hy h1
  go_enter Tryd.func25, Tryd.ntmps25
  go_wp2_with fail
  go_ret
  exact retBX_mk rfl
theorem isAccess_8n (k x : Nat) (h1 : k < 4) (hx : Hid (x < 18446744073709551616)) (h3 : Hid (18446744073709551616 < x + 8)) (w : World) : Calls Tryd.prog 25 #[.int .i64 k, .int .u64 x, .int .i64 8] w (RetBX false w) := by
  have k0 : (0 : Int) ≤ k := by omega
  have k3 : (k : Int) ≤ 3 := by omega
  have hx := hx.out
  have h3 := h3.out
  obtain ⟨y, hy⟩ : ∃ y, y = x + 8 - 1 - 18446744073709551616 := ⟨_, rfl⟩
  have b1 : IntKind.u64.wrap (IntKind.u64.wrap ((x : Int) + 8) - 1) = (y : Int) := by rw [IntKind.wrap_u64, IntKind.wrap_u64]; omega
  have b2 : ¬ ((x : Int) ≤ y) := by omega
  clear hx h3 hy h1
  go_enter Tryd.func25, Tryd.ntmps25
  go_wp2_with fail
  go_ret
  exact retBX_mk rfl
theorem isAccess_y (kind : Int) (x : Nat) (size : Int) (k s : Nat) (h : Hid (Acc kind x size k s)) (hx : Hid (x < 18446744073709551616)) (w : World) : Calls Tryd.prog 25 #[.int .i64 kind, .int .u64 x, .int .i64 size] w (RetBX true w) := by
  obtain ⟨rfl, h1, rfl, h2, h3⟩ := h.out
  rcases h2 with rfl | rfl | rfl | rfl
  · exact isAccess_1y k x h1 hx h3 w
  · exact isAccess_2y k x h1 hx h3 w
  · exact isAccess_4y k x h1 hx h3 w
  · exact isAccess_8y k x h1 hx h3 w
theorem isAccess_s (kind : Int) (x : Nat) (size : Int) (h : size ≠ 1 ∧ size ≠ 2 ∧ size ≠ 4 ∧ size ≠ 8) (w : World) : Calls Tryd.prog 25 #[.int .i64 kind, .int .u64 x, .int .i64 size] w (RetBX false w) := by
  obtain ⟨h1, h2, h3, h4⟩ := h
  have e1 : (size == 1) = false := by rw [beq_eq_false_iff_ne]; exact h1
  have e2 : (size == 2) = false := by rw [beq_eq_false_iff_ne]; exact h2
  have e3 : (size == 4) = false := by rw [beq_eq_false_iff_ne]; exact h3
  have e4 : (size == 8) = false := by rw [beq_eq_false_iff_ne]; exact h4
  go_enter Tryd.func25, Tryd.ntmps25
  go_wp2_with fail
  go_ret
  exact retBX_mk rfl

theorem isAccess_1l (kind : Int) (x : Nat) (h : kind < 0) (w : World) : Calls Tryd.prog 25 #[.int .i64 kind, .int .u64 x, .int .i64 1] w (RetBX false w) := by
  go_enter Tryd.func25, Tryd.ntmps25
  go_wp2_with fail
  go_ret
  exact retBX_mk rfl
theorem isAccess_1g (kind : Int) (x : Nat) (h0 : 0 ≤ kind) (h : 3 < kind) (w : World) : Calls Tryd.prog 25 #[.int .i64 kind, .int .u64 x, .int .i64 1] w (RetBX false w) := by
  go_enter Tryd.func25, Tryd.ntmps25
  go_wp2_with fail
  go_ret
  exact retBX_mk rfl
theorem isAccess_2l (kind : Int) (x : Nat) (h : kind < 0) (w : World) : Calls Tryd.prog 25 #[.int .i64 kind, .int .u64 x, .int .i64 2] w (RetBX false w) := by
  go_enter Tryd.func25, Tryd.ntmps25
  go_wp2_with fail
  go_ret
  exact retBX_mk rfl
theorem isAccess_2g (kind : Int) (x : Nat) (h0 : 0 ≤ kind) (h : 3 < kind) (w : World) : Calls Tryd.prog 25 #[.int .i64 kind, .int .u64 x, .int .i64 2] w (RetBX false w) := by
  go_enter Tryd.func25, Tryd.ntmps25
  go_wp2_with fail
  go_ret
  exact retBX_mk rfl
theorem isAccess_4l (kind : Int) (x : Nat) (h : kind < 0) (w : World) : Calls Tryd.prog 25 #[.int .i64 kind, .int .u64 x, .int .i64 4] w (RetBX false w) := by
  go_enter Tryd.func25, Tryd.ntmps25
  go_wp2_with fail
  go_ret
  exact retBX_mk rfl
theorem isAccess_4g (kind : Int) (x : Nat) (h0 : 0 ≤ kind) (h : 3 < kind) (w : World) : Calls Tryd.prog 25 #[.int .i64 kind, .int .u64 x, .int .i64 4] w (RetBX false w) := by
  go_enter Tryd.func25, Tryd.ntmps25
  go_wp2_with fail
  go_ret
  exact retBX_mk rfl
theorem isAccess_8l (kind : Int) (x : Nat) (h : kind < 0) (w : World) : Calls Tryd.prog 25 #[.int .i64 kind, .int .u64 x, .int .i64 8] w (RetBX false w) := by
  go_enter Tryd.func25, Tryd.ntmps25
  go_wp2_with fail
  go_ret
  exact retBX_mk rfl
theorem isAccess_8g (kind : Int) (x : Nat) (h0 : 0 ≤ kind) (h : 3 < kind) (w : World) : Calls Tryd.prog 25 #[.int .i64 kind, .int .u64 x, .int .i64 8] w (RetBX false w) := by
  go_enter Tryd.func25, Tryd.ntmps25
  go_wp2_with fail
  go_ret
  exact retBX_mk rfl
theorem isAccess_n (kind : Int) (x : Nat) (size : Int) (h : Hid (accB kind x size = false)) (hx : Hid (x < 18446744073709551616)) (w : World) : Calls Tryd.prog 25 #[.int .i64 kind, .int .u64 x, .int .i64 size] w (RetBX false w) := by
  rcases acc_n h.out with h | ⟨h1, h2⟩ | ⟨h1, h2, h3⟩ | ⟨h1, h2, h3, h4⟩
  · exact isAccess_s kind x size h w
  · rcases h1 with rfl | rfl | rfl | rfl
    · exact isAccess_1l kind x h2 w
    · exact isAccess_2l kind x h2 w
    · exact isAccess_4l kind x h2 w
    · exact isAccess_8l kind x h2 w
  · rcases h1 with rfl | rfl | rfl | rfl
    · exact isAccess_1g kind x h2 h3 w
    · exact isAccess_2g kind x h2 h3 w
    · exact isAccess_4g kind x h2 h3 w
    · exact isAccess_8g kind x h2 h3 w
  · obtain ⟨k, rfl⟩ : ∃ k : Nat, kind = k := ⟨kind.toNat, by omega⟩
    rcases h1 with rfl | rfl | rfl | rfl
    · exact isAccess_1n k x (by omega) hx (by show _ < _; omega) w
    · exact isAccess_2n k x (by omega) hx (by show _ < _; omega) w
    · exact isAccess_4n k x (by omega) hx (by show _ < _; omega) w
    · exact isAccess_8n k x (by omega) hx (by show _ < _; omega) w
/-- A row of cells in a block. -/
def Row (w : World) (b : Nat) (t : TypeId) (cs : Array Value) : Prop := w.heap[b]? = some (.cells cs t (0, 0))
theorem Row.below {w w' : World} {b : Nat} {t : TypeId} {cs : Array Value} {B : Nat} (h : Row w b t cs) (hb : Below B w w') (hB : b < B) : Row w' b t cs := by
  unfold Row; rw [hb.block b hB]; exact h
theorem row_new (w : World) (cs : Array Value) (t : TypeId) : Row (w.alloc (Obj.cells cs t)) w.heap.size t cs := heap_alloc_new w _
theorem row_old {w : World} {b : Nat} {t : TypeId} {cs : Array Value} (h : Row w b t cs) (o : Obj) : Row (w.alloc o) b t cs := by
  unfold Row
  have hb : b < w.heap.size := by
    apply Nat.lt_of_not_le
    intro hn
    unfold Row at h
    rw [Array.getElem?_eq_none hn] at h; cases h
  exact (heap_alloc_old w o hb).trans h
theorem info8c (c : Nat → Nat) : (Tryd.prog.info? 22).map (·.size) = some (u8s c).size := by rw [u8s_size]; kernel_rfl
theorem info8a (a : Nat → Nat) : (Tryd.prog.info? 24).map (·.size) = some (u64s a).size := by rw [u64s_size]; kernel_rfl
theorem Row.cell {w : World} {b : Nat} {t : TypeId} {cs : Array Value} (h : Row w b t cs) (o : Nat) : w.cell? ⟨b, o, none⟩ = cs[o]? := cell_of_row w b o cs t (0, 0) h
theorem idx8 (c : Nat → Nat) (n : Nat) (hn : n < 8) (v : World) : Sem.run Tryd.prog (Instr.index 22 (.agg (u8s c)) (.int .i64 n)) v = .ok (.int .u8 (c n : Nat)) v := by
  have : n = 0 ∨ n = 1 ∨ n = 2 ∨ n = 3 ∨ n = 4 ∨ n = 5 ∨ n = 6 ∨ n = 7 := by omega
  rcases this with rfl | rfl | rfl | rfl | rfl | rfl | rfl | rfl <;> rfl
/-- What the entry n says, by cases. -/
theorem go_miss {c a : Nat → Nat} {m : Bool} {k x y n g : Nat} (hn : n + (g + 1) = 8) (h : missB c a x y n = true) : goF c a m k x y (g + 1) = goF c a m k x y g := by
  show (bif missB c a x y (7 - g) then _ else _) = _
  rw [show 7 - g = n by omega, h]; rfl
theorem go_part {c a : Nat → Nat} {m : Bool} {k x y n g : Nat} (hn : n + (g + 1) = 8) (h : missB c a x y n = false) (h2 : partB c a x y n = true) : goF c a m k x y (g + 1) = false := by
  show (bif missB c a x y (7 - g) then _ else (bif partB c a x y (7 - g) then false else _)) = _
  rw [show 7 - g = n by omega, h, h2]; rfl
theorem go_all {c a : Nat → Nat} {m : Bool} {k x y n g : Nat} (hn : n + (g + 1) = 8) (h : missB c a x y n = false) (h2 : partB c a x y n = false) : goF c a m k x y (g + 1) = ((m && !lockB (c n)) || allowB (c n) k) := by
  show (bif missB c a x y (7 - g) then _ else (bif partB c a x y (7 - g) then false else (m && !lockB (c (7 - g))) || allowB (c (7 - g)) k)) = _
  rw [show 7 - g = n by omega, h, h2]; rfl
set_option maxRecDepth 100000 in
theorem Check_n (c a : Nat → Nat) (mode kind : Int) (x : Nat) (size : Int) (h : Hid (accB kind x size = false)) (hx : Hid (x < 18446744073709551616)) (w : World) :
    Calls Tryd.prog 11 #[.agg (u8s c), .agg (u64s a), .int .i64 mode, .int .i64 kind, .int .u64 x, .int .i64 size] w (RetB false w) := by
  have HA := Lib.hid (fun v => isAccess_n kind x size h hx v)
  go_enter Tryd.func11, Tryd.ntmps11
  go_wp2_with fail
  go_step3
  go_wp2_with fail
  refine (HA.out _).mono ?_; rintro e w1 ⟨rfl, h⟩; replace h := h.symm; subst h
  go_wp2_with fail
  try rw [Exit.noGoto_ret]
  go_ret
  exact retB_mk rfl (by repeat (first | (with_reducible first | exact Below.refl _ _ | assumption | exact Nat.le_refl _ | refine Below.drew ?_ | refine Below.alloc ?_ ?_ _ | refine Below.setCell ?_ ?_ _ | refine le_alloc ?_ | refine le_set ?_ | refine le_drew ?_ | refine below_step (by assumption) ?_ ?_ | refine le_below (by assumption) ?_) | (dsimp only; omega)))
set_option maxRecDepth 100000 in
theorem Check_y (c a : Nat → Nat) (mode kind : Int) (x : Nat) (size : Int) (k s : Nat) (hk : Hid (Acc kind x size k s)) (hc : Hid (OkC c)) (ha : Hid (OkA a)) (hx : Hid (x < 18446744073709551616)) (m : Bool) (hm : (mode == 3) = m) (w : World) (hG : Hid (G w)) :
    Calls Tryd.prog 11 #[.agg (u8s c), .agg (u64s a), .int .i64 mode, .int .i64 kind, .int .u64 x, .int .i64 size] w (RetB (goF c a m k x (x + s - 1) 8) w) := by
  have HA := Lib.hid (fun v => isAccess_y kind x size k s hk hx v)
  obtain ⟨rfl, h1, rfl, h2, h3⟩ := hk.out
  have hx0 := hx.out
  obtain ⟨y, hy⟩ : ∃ y, y = x + s - 1 := ⟨_, rfl⟩
  have b0 : IntKind.u64.wrap (s : Int) = s := by rw [IntKind.wrap_u64]; omega
  have b1 : IntKind.u64.wrap (IntKind.u64.wrap ((x : Int) + s) - 1) = (y : Int) := by rw [IntKind.wrap_u64, IntKind.wrap_u64]; omega
  rw [← hy]
  have H1 := Lib.hid h1
  clear h1 h2 h3 hx0 hy hk hx
  obtain ⟨R, hR⟩ : ∃ R, R = goF c a m k x y 8 := ⟨_, rfl⟩
  rw [← hR]
  have HR := Lib.hid hR
  clear hR
  go_enter Tryd.func11, Tryd.ntmps11
  go_wp2_with fail
  go_step3
  go_wp2_with fail
  refine (HA.out _).mono ?_; rintro e w1 ⟨rfl, h⟩; replace h := h.symm; subst h
  go_wp2_with fail
  go_step3
  go_wp2_with (refine wpList_load_row rfl 22 _ rfl w.heap.size rfl 22 (u8s c) (0, 0) _ (row_old (row_new _ _ _) _) Tryd.underlying22 rfl (info8c c) ?_)
  go_loopg [30] 8 (fun g i wr => ∃ n : Nat, n + g = 8 ∧ i = .int .i64 n ∧ Hid (R = goF c a m k x y g) ∧ Hid (Row wr w.heap.size 22 (u8s c)) ∧ Hid (Row wr (w.heap.size + 1) 24 (u64s a)) ∧ Hid (Below w.heap.size w wr) ∧ Hid (w.heap.size + 2 ≤ wr.heap.size) ∧ Hid (G wr))
  case atStart => exact ⟨0, by omega, rfl, HR, row_old (row_new _ _ _) _, by have := row_new (w.alloc (Obj.cells (u8s c) 22)) (u64s a) 24; rwa [sz_alloc] at this, by show Below _ _ _; exact (by repeat (first | (with_reducible first | exact Below.refl _ _ | assumption | exact Nat.le_refl _ | refine Below.drew ?_ | refine Below.alloc ?_ ?_ _ | refine Below.setCell ?_ ?_ _ | refine le_alloc ?_ | refine le_set ?_ | refine le_drew ?_ | refine below_step (by assumption) ?_ ?_ | refine le_below (by assumption) ?_) | (dsimp only; omega))), by show _ ≤ _; simp only [sz_alloc]; omega, g_alloc (g_alloc hG.out _) _⟩
  case round =>
    obtain ⟨n, hn, rfl, hI, r1, r2, hB, hS, hGr⟩ := hrel
    clear HR hG
    cases gk with
    | zero =>
      obtain rfl : n = 8 := by omega
      go_wp2_with fail
      try rw [Exit.noGoto_ret]
      go_ret
      exact retB_mk hI.out.symm hB.out
    | succ g =>
      have n8 : (n : Int) < 8 := by omega
      have n0 : ((n : Nat) : Int).toNat = n := by omega
      have HX := idx8 c n (by omega)
      have HRg := Lib.hid (fun v hv => Range_c c a n (by omega) hc ha v hv)
      have HL := Lib.hid (fun v => isLocked_c (c n) (hc.out n) v)
      have HW := Lib.hid (fun v => allows_c (c n) k H1.out (hc.out n) v)
      have q0 := @go_miss c a m k x y n g hn
      have q1 := @go_part c a m k x y n g hn
      have q2 := @go_all c a m k x y n g hn
      unfold missB at q0 q1 q2
      unfold partB at q1 q2
      obtain ⟨A, eA⟩ : ∃ A, A = rA c a n := ⟨_, rfl⟩
      obtain ⟨B, eB⟩ : ∃ B, B = rB c a n := ⟨_, rfl⟩
      obtain ⟨K, eK⟩ : ∃ K, K = rOk c a n := ⟨_, rfl⟩
      obtain ⟨L, eL⟩ : ∃ L, L = lockB (c n) := ⟨_, rfl⟩
      obtain ⟨W, eW⟩ : ∃ W, W = allowB (c n) k := ⟨_, rfl⟩
      rw [← eA, ← eB, ← eK] at HRg q0 q1 q2
      rw [← eL] at HL q2
      rw [← eW] at HW q2
      clear eA eB eK eL eW
      have HN1 : n + 1 + g = 8 := by omega
      -- what is missed
      have missed : (!K || decide (B < x) || decide (y < A)) = true → Hid (R = goF c a m k x y g) := fun h => by
        show _ = _
        rw [hI.out, q0 h]
      cases K with
      | false =>
        have HN := missed rfl
        clear missed q0 q1 q2 hI hn
        go_wp2_with (first
          | (refine wpList_load_row rfl 22 _ rfl w.heap.size rfl 22 (u8s c) (0, 0) _ r1.out Tryd.underlying22 rfl (info8c c) ?_)
          | (refine wpList_load_row rfl 24 _ rfl (w.heap.size + 1) rfl 24 (u64s a) (0, 0) _ r2.out Tryd.underlying24 rfl (info8a a) ?_))
        refine (HRg.out _ hGr).mono ?_; rintro e w1 ⟨rfl, hb⟩
        have r1' := Lib.hid (r1.out.below hb (by have := hS.out; omega))
        have r2' := Lib.hid (r2.out.below hb (by have := hS.out; omega))
        have hB' := Lib.hid (below_step hb hB.out hB.out.size)
        have hS' : Hid (w.heap.size + 2 ≤ w1.heap.size) := Nat.le_trans hS.out hb.size
        have hG' := Lib.hid (g_below hGr.out hb hGr.out.1)
        clear hb
        go_wp2_with fail
        go_roundg g
        case measure => omega
        case rel => exact ⟨n + 1, by omega, by go_num, HN, r1', r2', hB', hS', hG'⟩
      | true =>
        by_cases h1 : B < x
        · have HN := missed (by simp [h1])
          have h1' : (B : Int) < x := by omega
          clear missed q0 q1 q2 hI hn h1
          go_wp2_with (first
            | (refine wpList_load_row rfl 22 _ rfl w.heap.size rfl 22 (u8s c) (0, 0) _ r1.out Tryd.underlying22 rfl (info8c c) ?_)
            | (refine wpList_load_row rfl 24 _ rfl (w.heap.size + 1) rfl 24 (u64s a) (0, 0) _ r2.out Tryd.underlying24 rfl (info8a a) ?_))
          refine (HRg.out _ hGr).mono ?_; rintro e w1 ⟨rfl, hb⟩
          have r1' := Lib.hid (r1.out.below hb (by have := hS.out; omega))
          have r2' := Lib.hid (r2.out.below hb (by have := hS.out; omega))
          have hB' := Lib.hid (below_step hb hB.out hB.out.size)
          have hS' : Hid (w.heap.size + 2 ≤ w1.heap.size) := Nat.le_trans hS.out hb.size
          have hG' := Lib.hid (g_below hGr.out hb hGr.out.1)
          clear hb
          go_wp2_with fail
          go_roundg g
          case measure => omega
          case rel => exact ⟨n + 1, by omega, by go_num, HN, r1', r2', hB', hS', hG'⟩
        · have h1' : ¬ ((B : Int) < x) := by omega
          by_cases h2 : y < A
          · have HN := missed (by simp [h2])
            have h2' : (y : Int) < A := by omega
            clear missed q0 q1 q2 hI hn h1 h2
            go_wp2_with (first
              | (refine wpList_load_row rfl 22 _ rfl w.heap.size rfl 22 (u8s c) (0, 0) _ r1.out Tryd.underlying22 rfl (info8c c) ?_)
              | (refine wpList_load_row rfl 24 _ rfl (w.heap.size + 1) rfl 24 (u64s a) (0, 0) _ r2.out Tryd.underlying24 rfl (info8a a) ?_))
            refine (HRg.out _ hGr).mono ?_; rintro e w1 ⟨rfl, hb⟩
            have r1' := Lib.hid (r1.out.below hb (by have := hS.out; omega))
            have r2' := Lib.hid (r2.out.below hb (by have := hS.out; omega))
            have hB' := Lib.hid (below_step hb hB.out hB.out.size)
            have hS' : Hid (w.heap.size + 2 ≤ w1.heap.size) := Nat.le_trans hS.out hb.size
            have hG' := Lib.hid (g_below hGr.out hb hGr.out.1)
            clear hb
            go_wp2_with fail
            go_roundg g
            case measure => omega
            case rel => exact ⟨n + 1, by omega, by go_num, HN, r1', r2', hB', hS', hG'⟩
          · have h2' : ¬ ((y : Int) < A) := by omega
            clear missed q0
            have e0 : (!true || decide (B < x) || decide (y < A)) = false := by simp [h1, h2] <;> omega
            by_cases h3 : x < A
            · have h3' : (x : Int) < A := by omega
              have HN : Hid (R = false) := by show _ = _; rw [hI.out, q1 e0 (by simp [h3])]
              clear q1 q2 hI hn h1 h2 h3 e0
              go_wp2_with (first
                | (refine wpList_load_row rfl 22 _ rfl w.heap.size rfl 22 (u8s c) (0, 0) _ r1.out Tryd.underlying22 rfl (info8c c) ?_)
                | (refine wpList_load_row rfl 24 _ rfl (w.heap.size + 1) rfl 24 (u64s a) (0, 0) _ r2.out Tryd.underlying24 rfl (info8a a) ?_))
              refine (HRg.out _ hGr).mono ?_; rintro e w1 ⟨rfl, hb⟩
              have r1' := Lib.hid (r1.out.below hb (by have := hS.out; omega))
              have r2' := Lib.hid (r2.out.below hb (by have := hS.out; omega))
              have hB' := Lib.hid (below_step hb hB.out hB.out.size)
              have hS' : Hid (w.heap.size + 2 ≤ w1.heap.size) := Nat.le_trans hS.out hb.size
              have hG' := Lib.hid (g_below hGr.out hb hGr.out.1)
              clear hb
              go_wp2_with fail
              try rw [Exit.noGoto_ret]
              go_ret
              exact retB_mk HN.out.symm hB'.out
            · have h3' : ¬ ((x : Int) < A) := by omega
              by_cases h4 : B < y
              · have h4' : (B : Int) < y := by omega
                have HN : Hid (R = false) := by show _ = _; rw [hI.out, q1 e0 (by simp [h4])]
                clear q1 q2 hI hn h1 h2 h3 h4 e0
                go_wp2_with (first
                  | (refine wpList_load_row rfl 22 _ rfl w.heap.size rfl 22 (u8s c) (0, 0) _ r1.out Tryd.underlying22 rfl (info8c c) ?_)
                  | (refine wpList_load_row rfl 24 _ rfl (w.heap.size + 1) rfl 24 (u64s a) (0, 0) _ r2.out Tryd.underlying24 rfl (info8a a) ?_))
                refine (HRg.out _ hGr).mono ?_; rintro e w1 ⟨rfl, hb⟩
                have r1' := Lib.hid (r1.out.below hb (by have := hS.out; omega))
                have r2' := Lib.hid (r2.out.below hb (by have := hS.out; omega))
                have hB' := Lib.hid (below_step hb hB.out hB.out.size)
                have hS' : Hid (w.heap.size + 2 ≤ w1.heap.size) := Nat.le_trans hS.out hb.size
                have hG' := Lib.hid (g_below hGr.out hb hGr.out.1)
                clear hb
                go_wp2_with fail
                try rw [Exit.noGoto_ret]
                go_ret
                exact retB_mk HN.out.symm hB'.out
              · have h4' : ¬ ((B : Int) < y) := by omega
                have HN : Hid (R = ((m && !L) || W)) := by show _ = _; rw [hI.out, q2 e0 (by simp [h3, h4] <;> omega)]
                clear q1 q2 hI hn h1 h2 h3 h4 e0
                cases m with
                | false =>
                  go_wp2_with (first
                    | (refine wpList_load_row rfl 22 _ rfl w.heap.size rfl 22 (u8s c) (0, 0) _ r1.out Tryd.underlying22 rfl (info8c c) ?_)
                    | (refine wpList_load_row rfl 24 _ rfl (w.heap.size + 1) rfl 24 (u64s a) (0, 0) _ r2.out Tryd.underlying24 rfl (info8a a) ?_))
                  refine (HRg.out _ hGr).mono ?_; rintro e w1 ⟨rfl, hb⟩
                  have r1' := Lib.hid (r1.out.below hb (by have := hS.out; omega))
                  have r2' := Lib.hid (r2.out.below hb (by have := hS.out; omega))
                  have hB' := Lib.hid (below_step hb hB.out hB.out.size)
                  have hS' : Hid (w.heap.size + 2 ≤ w1.heap.size) := Nat.le_trans hS.out hb.size
                  have hG' := Lib.hid (g_below hGr.out hb hGr.out.1)
                  clear hb
                  go_wp2_with fail
                  refine (HW.out _).mono ?_; rintro e w2 ⟨rfl, h⟩; replace h := h.symm; subst h
                  go_wp2_with fail
                  try rw [Exit.noGoto_ret]
                  go_ret
                  exact retB_mk (by rw [HN.out]; cases L <;> cases W <;> rfl) hB'.out
                | true =>
                  go_wp2_with (first
                    | (refine wpList_load_row rfl 22 _ rfl w.heap.size rfl 22 (u8s c) (0, 0) _ r1.out Tryd.underlying22 rfl (info8c c) ?_)
                    | (refine wpList_load_row rfl 24 _ rfl (w.heap.size + 1) rfl 24 (u64s a) (0, 0) _ r2.out Tryd.underlying24 rfl (info8a a) ?_))
                  refine (HRg.out _ hGr).mono ?_; rintro e w1 ⟨rfl, hb⟩
                  have r1' := Lib.hid (r1.out.below hb (by have := hS.out; omega))
                  have r2' := Lib.hid (r2.out.below hb (by have := hS.out; omega))
                  have hB' := Lib.hid (below_step hb hB.out hB.out.size)
                  have hS' : Hid (w.heap.size + 2 ≤ w1.heap.size) := Nat.le_trans hS.out hb.size
                  have hG' := Lib.hid (g_below hGr.out hb hGr.out.1)
                  clear hb
                  go_wp2_with fail
                  refine (HL.out _).mono ?_; rintro e w2 ⟨rfl, h⟩; replace h := h.symm; subst h
                  cases L with
                  | false =>
                    go_wp2_with fail
                    try rw [Exit.noGoto_ret]
                    go_ret
                    exact retB_mk (by rw [HN.out]; cases W <;> rfl) hB'.out
                  | true =>
                    go_wp2_with fail
                    refine (HW.out _).mono ?_; rintro e w3 ⟨rfl, h⟩; replace h := h.symm; subst h
                    go_wp2_with fail
                    try rw [Exit.noGoto_ret]
                    go_ret
                    exact retB_mk (by rw [HN.out]; cases W <;> rfl) hB'.out
end Go.Proofs.YtjkpcmhepeekmaaDoor
