/- What a register reads. -/
import Derived.Test.YtmlbobjbkbcabaaB3
namespace Go.Proofs.Ytmlbobjbkbcabaa
open Go.ChangeShapes Go.WideShapes Go.ChangeAt Go.RowKit P
set_option linter.unusedVariables false
set_option linter.unusedSimpArgs false
/-- A whole value loaded out of a part of a block. -/
theorem wp_load_at {P : Program} {o : Oper} {a : Act} {w : World} {K : Act → World → Prop} {Q : Exit → Act → World → Prop} (ty : TypeId) (x : Operand) (ho : o.op = .load ty x)
    (g off : Nat) (hx : a.eval x = .pointer (some ⟨g, off, none⟩)) (cs : Array Value) (d : TypeDesc) (hc : ∀ j, j < cs.size → w.cell? ⟨g, off + j, none⟩ = cs[j]?)
    (hu : P.underlying ty = some d) (hd : (match d with | .struct _ | .array _ _ => true | _ => false) = true) (hi : (P.info? ty).map (·.size) = some cs.size)
    (h : K (a.put o.dst (.agg cs)) w) : o.wp P a w K Q := by
  have hl : (loadCells ⟨g, off, none⟩ cs.toList.length).run P w = .ok cs.toList.toArray w :=
    run_loadCells_list (P := P) w ⟨g, off, none⟩ cs.toList (fun j v hv => by
      have hadd : (⟨g, off, none⟩ : Addr).add j = ⟨g, off + j, none⟩ := by unfold Addr.add; split <;> simp_all
      have hj : j < cs.size := by
        have := (List.getElem?_eq_some_iff.1 hv).1
        simpa using this
      rw [hadd, hc j hj]
      simpa using hv)
  have hlv : (loadVar ty ⟨g, off, none⟩).run P w = .ok (.agg cs) w := by
    cases hq : P.info? ty with
    | none => simp [hq] at hi
    | some i =>
      have hs : i.size = cs.size := by simpa [hq] using hi
      have hagg : (isAgg ty).run P w = .ok true w := by
        unfold isAgg
        rw [Sem.run_bind, run_underlying hu w]
        cases d <;> simp_all
      simp only [Array.length_toList, Array.toArray_toList] at hl
      simp [loadVar, Sem.run_bind, hagg, sizeOf, typeInfo, hq, hs, hl]
  unfold Oper.wp execOp
  simp only [ho, hx, Instr.loadAt, Instr.sureAddr, Sem.run_bind, Sem.run_pure, Result.andThen_ok, hlv]
  exact h
theorem wpList_load_at {P : Program} {ops : Array Oper} {rest : List Oper} {o : Oper} {a : Act} {w : World} {Q : Exit → Act → World → Prop} (hgd : o.guard = none) (ty : TypeId) (x : Operand) (ho : o.op = .load ty x)
    (g off : Nat) (hx : a.eval x = .pointer (some ⟨g, off, none⟩)) (cs : Array Value) (d : TypeDesc) (hc : ∀ j, j < cs.size → w.cell? ⟨g, off + j, none⟩ = cs[j]?)
    (hu : P.underlying ty = some d) (hd : (match d with | .struct _ | .array _ _ => true | _ => false) = true) (hi : (P.info? ty).map (·.size) = some cs.size)
    (h : wpList P ops Q rest (a.put o.dst (.agg cs)) w) : wpList P ops Q (o :: rest) a w :=
  wpList_plain hgd fun _ hK => wp_load_at ty x ho g off hx cs d hc hu hd hi (hK _ _ h)
theorem cfg_cells {w : World} {b : Nat} {S : Nat → Nat} (h : Row w b 26 (cs S)) : ∀ j, j < (u8s (cfO S)).size → w.cell? ⟨b, 22 + j, none⟩ = (u8s (cfO S))[j]? := fun j hj => by
  rw [h.cell]; exact cs_cfg S j hj
theorem adr_cells {w : World} {b : Nat} {S : Nat → Nat} (h : Row w b 26 (cs S)) : ∀ j, j < (u64s (adO S)).size → w.cell? ⟨b, 30 + j, none⟩ = (u64s (adO S))[j]? := fun j hj => by
  rw [h.cell]; exact cs_adr S j hj
/-- What a register reads: of each number. -/
def specB (n : Int) : Bool := n == 1 || n == 2 || n == 3 || n == 256 || n == 768 || n == 260 || n == 772 || n == 324 || n == 836 || n == 769 || n == 928 || n == 3073
def mipN (S : Nat → Nat) (lines : Nat) : Nat := S 5 ||| (lines &&& 2696)
def specN (S : Nat → Nat) (n : Int) (lines now : Nat) : Nat :=
  if n = 1 then S 21 &&& 31 else if n = 2 then (S 21 &&& 224) / 32 else if n = 3 then S 21
  else if n = 256 then S 0 &&& 9223372045445521698 else if n = 768 then S 0
  else if n = 260 then S 4 &&& S 3 else if n = 772 then S 4
  else if n = 324 then mipN S lines &&& S 3 else if n = 836 then mipN S lines
  else if n = 769 then 9223372036856090925 else if n = 928 then joinN (cfO S) 8 else now
def rdF (S : Nat → Nat) (n : Int) (lines now : Nat) : Nat := if specB n = true then specN S n lines now else if plK n = 38 then 0 else S (plK n)
def thereB (n : Int) : Bool := specB n || !(plK n == 38) || noughtB n
def RetL (x : Nat) (t : Bool) (W : World) (e : Ending) (w' : World) : Prop := e = .returned (.tuple #[.int .u64 x, .bool t]) ∧ Below W.heap.size W w'
theorem retL_mk {a : Int} {x : Nat} {s t : Bool} {W w' : World} (h : a = x) (h2 : s = t) (hb : Below W.heap.size W w') : RetL x t W (.returned (.tuple #[.int .u64 a, .bool s])) w' := ⟨by rw [h, h2], hb⟩
theorem and_ones (x : Nat) (hx : x < 18446744073709551616) : bits .and .u64 (x : Int) 18446744073709551615 = (x : Int) := by
  have h := u_and x 18446744073709551615 hx (by decide)
  rw [show (18446744073709551615 : Nat) = 2 ^ 64 - 1 from rfl, Nat.and_two_pow_sub_one_eq_mod, Nat.mod_eq_of_lt hx] at h
  exact h
set_option maxRecDepth 100000 in
theorem look_1 (b : Nat) (S : Nat → Nat) (lines now : Nat) (hS : Hid (OkS S)) (hl : Hid (lines < 18446744073709551616)) (w : World) (R : Hid (Row w b 26 (cs S))) : Calls Try.prog 23 #[.pointer (some ⟨b, 0, none⟩), .int .i64 1, .int .u64 lines, .int .u64 now] w (RetL (rdF S 1 lines now) true w) := by
  have HR : Hid (rdF S 1 lines now = S 21 &&& 31) := rfl
  have c21 : w.cell? ⟨b, 21, none⟩ = some (.int .u64 (S 21 : Nat)) := R.out.cell 21
  have a1 := Lib.hid (u_and (S 21) 31 (hS.out.u 21 (by decide)) (by decide))
  go_enter Try.func23, Try.ntmps23
  go_wp2_with fail
  go_ret2
  exact retL_mk (by rw [HR.out]; exact a1.out) rfl (by repeat (first | (with_reducible first | exact Below.refl _ _ | assumption | exact Nat.le_refl _ | refine Below.drew ?_ | refine Below.alloc ?_ ?_ _ | refine Below.setCell ?_ ?_ _ | refine le_alloc ?_ | refine le_set ?_ | refine le_drew ?_ | refine below_step (by assumption) ?_ ?_ | refine le_below (by assumption) ?_) | (dsimp only; omega)))
set_option maxRecDepth 100000 in
theorem look_2 (b : Nat) (S : Nat → Nat) (lines now : Nat) (hS : Hid (OkS S)) (hl : Hid (lines < 18446744073709551616)) (w : World) (R : Hid (Row w b 26 (cs S))) : Calls Try.prog 23 #[.pointer (some ⟨b, 0, none⟩), .int .i64 2, .int .u64 lines, .int .u64 now] w (RetL (rdF S 2 lines now) true w) := by
  have HR : Hid (rdF S 2 lines now = (S 21 &&& 224) / 32) := rfl
  have c21 : w.cell? ⟨b, 21, none⟩ = some (.int .u64 (S 21 : Nat)) := R.out.cell 21
  have a1 : bits .and .u64 (S 21 : Int) 224 = ((S 21 &&& 224 : Nat) : Int) := u_and (S 21) 224 (hS.out.u 21 (by decide)) (by decide)
  go_enter Try.func23, Try.ntmps23
  go_wp2_with fail
  go_ret2
  exact retL_mk (by rw [HR.out]; simp) rfl (by repeat (first | (with_reducible first | exact Below.refl _ _ | assumption | exact Nat.le_refl _ | refine Below.drew ?_ | refine Below.alloc ?_ ?_ _ | refine Below.setCell ?_ ?_ _ | refine le_alloc ?_ | refine le_set ?_ | refine le_drew ?_ | refine below_step (by assumption) ?_ ?_ | refine le_below (by assumption) ?_) | (dsimp only; omega)))
set_option maxRecDepth 100000 in
theorem look_3 (b : Nat) (S : Nat → Nat) (lines now : Nat) (hS : Hid (OkS S)) (hl : Hid (lines < 18446744073709551616)) (w : World) (R : Hid (Row w b 26 (cs S))) : Calls Try.prog 23 #[.pointer (some ⟨b, 0, none⟩), .int .i64 3, .int .u64 lines, .int .u64 now] w (RetL (rdF S 3 lines now) true w) := by
  have HR : Hid (rdF S 3 lines now = S 21) := rfl
  have c21 : w.cell? ⟨b, 21, none⟩ = some (.int .u64 (S 21 : Nat)) := R.out.cell 21
  have a1 := and_ones (S 21) (hS.out.u 21 (by decide))
  go_enter Try.func23, Try.ntmps23
  go_wp2_with fail
  go_ret2
  exact retL_mk (by rw [HR.out]) rfl (by repeat (first | (with_reducible first | exact Below.refl _ _ | assumption | exact Nat.le_refl _ | refine Below.drew ?_ | refine Below.alloc ?_ ?_ _ | refine Below.setCell ?_ ?_ _ | refine le_alloc ?_ | refine le_set ?_ | refine le_drew ?_ | refine below_step (by assumption) ?_ ?_ | refine le_below (by assumption) ?_) | (dsimp only; omega)))
set_option maxRecDepth 100000 in
theorem look_256 (b : Nat) (S : Nat → Nat) (lines now : Nat) (hS : Hid (OkS S)) (hl : Hid (lines < 18446744073709551616)) (w : World) (R : Hid (Row w b 26 (cs S))) : Calls Try.prog 23 #[.pointer (some ⟨b, 0, none⟩), .int .i64 256, .int .u64 lines, .int .u64 now] w (RetL (rdF S 256 lines now) true w) := by
  have HR : Hid (rdF S 256 lines now = S 0 &&& 9223372045445521698) := rfl
  have c0 : w.cell? ⟨b, 0, none⟩ = some (.int .u64 (S 0 : Nat)) := R.out.cell 0
  have a1 := Lib.hid (u_and (S 0) 9223372045445521698 (hS.out.u 0 (by decide)) (by decide))
  go_enter Try.func23, Try.ntmps23
  go_wp2_with fail
  go_ret2
  exact retL_mk (by rw [HR.out]; exact a1.out) rfl (by repeat (first | (with_reducible first | exact Below.refl _ _ | assumption | exact Nat.le_refl _ | refine Below.drew ?_ | refine Below.alloc ?_ ?_ _ | refine Below.setCell ?_ ?_ _ | refine le_alloc ?_ | refine le_set ?_ | refine le_drew ?_ | refine below_step (by assumption) ?_ ?_ | refine le_below (by assumption) ?_) | (dsimp only; omega)))
set_option maxRecDepth 100000 in
theorem look_768 (b : Nat) (S : Nat → Nat) (lines now : Nat) (hS : Hid (OkS S)) (hl : Hid (lines < 18446744073709551616)) (w : World) (R : Hid (Row w b 26 (cs S))) : Calls Try.prog 23 #[.pointer (some ⟨b, 0, none⟩), .int .i64 768, .int .u64 lines, .int .u64 now] w (RetL (rdF S 768 lines now) true w) := by
  have HR : Hid (rdF S 768 lines now = S 0) := rfl
  have c0 : w.cell? ⟨b, 0, none⟩ = some (.int .u64 (S 0 : Nat)) := R.out.cell 0
  have a1 := and_ones (S 0) (hS.out.u 0 (by decide))
  go_enter Try.func23, Try.ntmps23
  go_wp2_with fail
  go_ret2
  exact retL_mk (by rw [HR.out]) rfl (by repeat (first | (with_reducible first | exact Below.refl _ _ | assumption | exact Nat.le_refl _ | refine Below.drew ?_ | refine Below.alloc ?_ ?_ _ | refine Below.setCell ?_ ?_ _ | refine le_alloc ?_ | refine le_set ?_ | refine le_drew ?_ | refine below_step (by assumption) ?_ ?_ | refine le_below (by assumption) ?_) | (dsimp only; omega)))
set_option maxRecDepth 100000 in
theorem look_260 (b : Nat) (S : Nat → Nat) (lines now : Nat) (hS : Hid (OkS S)) (hl : Hid (lines < 18446744073709551616)) (w : World) (R : Hid (Row w b 26 (cs S))) : Calls Try.prog 23 #[.pointer (some ⟨b, 0, none⟩), .int .i64 260, .int .u64 lines, .int .u64 now] w (RetL (rdF S 260 lines now) true w) := by
  have HR : Hid (rdF S 260 lines now = S 4 &&& S 3) := rfl
  have c4 : w.cell? ⟨b, 4, none⟩ = some (.int .u64 (S 4 : Nat)) := R.out.cell 4
  have c3 : w.cell? ⟨b, 3, none⟩ = some (.int .u64 (S 3 : Nat)) := R.out.cell 3
  have a1 := Lib.hid (u_and (S 4) (S 3) (hS.out.u 4 (by decide)) (hS.out.u 3 (by decide)))
  go_enter Try.func23, Try.ntmps23
  go_wp2_with fail
  go_ret2
  exact retL_mk (by rw [HR.out]; exact a1.out) rfl (by repeat (first | (with_reducible first | exact Below.refl _ _ | assumption | exact Nat.le_refl _ | refine Below.drew ?_ | refine Below.alloc ?_ ?_ _ | refine Below.setCell ?_ ?_ _ | refine le_alloc ?_ | refine le_set ?_ | refine le_drew ?_ | refine below_step (by assumption) ?_ ?_ | refine le_below (by assumption) ?_) | (dsimp only; omega)))
set_option maxRecDepth 100000 in
theorem look_772 (b : Nat) (S : Nat → Nat) (lines now : Nat) (hS : Hid (OkS S)) (hl : Hid (lines < 18446744073709551616)) (w : World) (R : Hid (Row w b 26 (cs S))) : Calls Try.prog 23 #[.pointer (some ⟨b, 0, none⟩), .int .i64 772, .int .u64 lines, .int .u64 now] w (RetL (rdF S 772 lines now) true w) := by
  have HR : Hid (rdF S 772 lines now = S 4) := rfl
  have c4 : w.cell? ⟨b, 4, none⟩ = some (.int .u64 (S 4 : Nat)) := R.out.cell 4
  have a1 := and_ones (S 4) (hS.out.u 4 (by decide))
  go_enter Try.func23, Try.ntmps23
  go_wp2_with fail
  go_ret2
  exact retL_mk (by rw [HR.out]) rfl (by repeat (first | (with_reducible first | exact Below.refl _ _ | assumption | exact Nat.le_refl _ | refine Below.drew ?_ | refine Below.alloc ?_ ?_ _ | refine Below.setCell ?_ ?_ _ | refine le_alloc ?_ | refine le_set ?_ | refine le_drew ?_ | refine below_step (by assumption) ?_ ?_ | refine le_below (by assumption) ?_) | (dsimp only; omega)))
set_option maxRecDepth 100000 in
theorem look_324 (b : Nat) (S : Nat → Nat) (lines now : Nat) (hS : Hid (OkS S)) (hl : Hid (lines < 18446744073709551616)) (w : World) (R : Hid (Row w b 26 (cs S))) : Calls Try.prog 23 #[.pointer (some ⟨b, 0, none⟩), .int .i64 324, .int .u64 lines, .int .u64 now] w (RetL (rdF S 324 lines now) true w) := by
  have HR : Hid (rdF S 324 lines now = mipN S lines &&& S 3) := rfl
  have c5 : w.cell? ⟨b, 5, none⟩ = some (.int .u64 (S 5 : Nat)) := R.out.cell 5
  have c3 : w.cell? ⟨b, 3, none⟩ = some (.int .u64 (S 3 : Nat)) := R.out.cell 3
  have a1 : bits .and .u64 (lines : Int) 2696 = ((lines &&& 2696 : Nat) : Int) := u_and lines 2696 hl.out (by decide)
  have a2 : bits .or .u64 (S 5 : Int) ((lines &&& 2696 : Nat) : Int) = ((mipN S lines : Nat) : Int) := u_or (S 5) (lines &&& 2696) (hS.out.u 5 (by decide)) (and_lt2 _ _ (by decide))
  have ml : mipN S lines < 18446744073709551616 := or_lt (hS.out.u 5 (by decide)) (and_lt2 _ _ (by decide))
  have a3 := Lib.hid (u_and (mipN S lines) (S 3) ml (hS.out.u 3 (by decide)))
  clear ml
  go_enter Try.func23, Try.ntmps23
  go_wp2_with fail
  go_ret2
  exact retL_mk (by rw [HR.out]; exact a3.out) rfl (by repeat (first | (with_reducible first | exact Below.refl _ _ | assumption | exact Nat.le_refl _ | refine Below.drew ?_ | refine Below.alloc ?_ ?_ _ | refine Below.setCell ?_ ?_ _ | refine le_alloc ?_ | refine le_set ?_ | refine le_drew ?_ | refine below_step (by assumption) ?_ ?_ | refine le_below (by assumption) ?_) | (dsimp only; omega)))
set_option maxRecDepth 100000 in
theorem look_836 (b : Nat) (S : Nat → Nat) (lines now : Nat) (hS : Hid (OkS S)) (hl : Hid (lines < 18446744073709551616)) (w : World) (R : Hid (Row w b 26 (cs S))) : Calls Try.prog 23 #[.pointer (some ⟨b, 0, none⟩), .int .i64 836, .int .u64 lines, .int .u64 now] w (RetL (rdF S 836 lines now) true w) := by
  have HR : Hid (rdF S 836 lines now = mipN S lines) := rfl
  have c5 : w.cell? ⟨b, 5, none⟩ = some (.int .u64 (S 5 : Nat)) := R.out.cell 5
  have a1 : bits .and .u64 (lines : Int) 2696 = ((lines &&& 2696 : Nat) : Int) := u_and lines 2696 hl.out (by decide)
  have a2 : bits .or .u64 (S 5 : Int) ((lines &&& 2696 : Nat) : Int) = ((mipN S lines : Nat) : Int) := u_or (S 5) (lines &&& 2696) (hS.out.u 5 (by decide)) (and_lt2 _ _ (by decide))
  have ml : mipN S lines < 18446744073709551616 := or_lt (hS.out.u 5 (by decide)) (and_lt2 _ _ (by decide))
  have a3 := and_ones (mipN S lines) ml
  clear ml
  go_enter Try.func23, Try.ntmps23
  go_wp2_with fail
  go_ret2
  exact retL_mk (by rw [HR.out]) rfl (by repeat (first | (with_reducible first | exact Below.refl _ _ | assumption | exact Nat.le_refl _ | refine Below.drew ?_ | refine Below.alloc ?_ ?_ _ | refine Below.setCell ?_ ?_ _ | refine le_alloc ?_ | refine le_set ?_ | refine le_drew ?_ | refine below_step (by assumption) ?_ ?_ | refine le_below (by assumption) ?_) | (dsimp only; omega)))
set_option maxRecDepth 100000 in
theorem look_769 (b : Nat) (S : Nat → Nat) (lines now : Nat) (hS : Hid (OkS S)) (hl : Hid (lines < 18446744073709551616)) (w : World) (R : Hid (Row w b 26 (cs S))) : Calls Try.prog 23 #[.pointer (some ⟨b, 0, none⟩), .int .i64 769, .int .u64 lines, .int .u64 now] w (RetL (rdF S 769 lines now) true w) := by
  have HR : Hid (rdF S 769 lines now = 9223372036856090925) := rfl
  go_enter Try.func23, Try.ntmps23
  go_wp2_with fail
  go_ret2
  exact retL_mk (by rw [HR.out]; rfl) rfl (by repeat (first | (with_reducible first | exact Below.refl _ _ | assumption | exact Nat.le_refl _ | refine Below.drew ?_ | refine Below.alloc ?_ ?_ _ | refine Below.setCell ?_ ?_ _ | refine le_alloc ?_ | refine le_set ?_ | refine le_drew ?_ | refine below_step (by assumption) ?_ ?_ | refine le_below (by assumption) ?_) | (dsimp only; omega)))
set_option maxRecDepth 100000 in
theorem look_928 (b : Nat) (S : Nat → Nat) (lines now : Nat) (hS : Hid (OkS S)) (hl : Hid (lines < 18446744073709551616)) (w : World) (R : Hid (Row w b 26 (cs S))) : Calls Try.prog 23 #[.pointer (some ⟨b, 0, none⟩), .int .i64 928, .int .u64 lines, .int .u64 now] w (RetL (rdF S 928 lines now) true w) := by
  have HR : Hid (rdF S 928 lines now = joinN (cfO S) 8) := rfl
  have HJ := Lib.hid (fun u => joined_c (cfO S) hS.out.c u)
  go_enter Try.func23, Try.ntmps23
  go_wp2_with (refine wpList_load_at rfl 23 _ rfl b 22 rfl (u8s (cfO S)) _ (cfg_cells R.out) Try.underlying23 rfl (info8c _) ?_)
  refine (HJ.out _).mono ?_; rintro e w1 ⟨rfl, hb⟩
  have HB := Lib.hid hb; clear hb
  go_wp2_with fail
  go_ret2
  exact retL_mk (by rw [HR.out]) rfl HB.out
set_option maxRecDepth 100000 in
theorem look_3073 (b : Nat) (S : Nat → Nat) (lines now : Nat) (hS : Hid (OkS S)) (hl : Hid (lines < 18446744073709551616)) (w : World) (R : Hid (Row w b 26 (cs S))) : Calls Try.prog 23 #[.pointer (some ⟨b, 0, none⟩), .int .i64 3073, .int .u64 lines, .int .u64 now] w (RetL (rdF S 3073 lines now) true w) := by
  have HR : Hid (rdF S 3073 lines now = now) := rfl
  go_enter Try.func23, Try.ntmps23
  go_wp2_with fail
  go_ret2
  exact retL_mk (by rw [HR.out]) rfl (by repeat (first | (with_reducible first | exact Below.refl _ _ | assumption | exact Nat.le_refl _ | refine Below.drew ?_ | refine Below.alloc ?_ ?_ _ | refine Below.setCell ?_ ?_ _ | refine le_alloc ?_ | refine le_set ?_ | refine le_drew ?_ | refine below_step (by assumption) ?_ ?_ | refine le_below (by assumption) ?_) | (dsimp only; omega)))
theorem spec_none {n : Int} (h : specB n = false) : (n == 1) = false ∧ (n == 2) = false ∧ (n == 3) = false ∧ (n == 256) = false ∧ (n == 768) = false ∧ (n == 260) = false ∧ (n == 772) = false ∧ (n == 324) = false ∧ (n == 836) = false ∧ (n == 769) = false ∧ (n == 928) = false ∧ (n == 3073) = false := by
  unfold specB at h
  simp only [Bool.or_eq_false_iff] at h
  obtain ⟨⟨⟨⟨⟨⟨⟨⟨⟨⟨⟨h0, h1⟩, h2⟩, h3⟩, h4⟩, h5⟩, h6⟩, h7⟩, h8⟩, h9⟩, h10⟩, h11⟩ := h
  exact ⟨h0, h1, h2, h3, h4, h5, h6, h7, h8, h9, h10, h11⟩
theorem spec_some {n : Int} (h : specB n = true) : n = 1 ∨ n = 2 ∨ n = 3 ∨ n = 256 ∨ n = 768 ∨ n = 260 ∨ n = 772 ∨ n = 324 ∨ n = 836 ∨ n = 769 ∨ n = 928 ∨ n = 3073 := by
  unfold specB at h
  simp only [Bool.or_eq_true, beq_iff_eq] at h
  omega
set_option maxRecDepth 100000 in
theorem look_p (b : Nat) (S : Nat → Nat) (n : Int) (lines now : Nat) (h : Hid (specB n = false)) (hp : Hid (plK n ≠ 38)) (w : World) (R : Hid (Row w b 26 (cs S))) : Calls Try.prog 23 #[.pointer (some ⟨b, 0, none⟩), .int .i64 n, .int .u64 lines, .int .u64 now] w (RetL (rdF S n lines now) true w) := by
  obtain ⟨e0, e1, e2, e3, e4, e5, e6, e7, e8, e9, e10, e11⟩ := spec_none h.out
  have HR : Hid (rdF S n lines now = S (plK n)) := by show _ = _; unfold rdF; rw [if_neg (by rw [h.out]; decide), if_neg hp.out]
  have HP := Lib.hid (fun u => plain_y b n hp.out u)
  have ck : w.cell? ⟨b, plK n, none⟩ = some (.int .u64 (S (plK n) : Nat)) := by rw [R.out.cell, cs_u S _ (pl_isU hp.out).1]
  obtain ⟨k, hk⟩ : ∃ k, plK n = k := ⟨_, rfl⟩
  rw [hk] at HP ck HR
  clear h hp hk
  go_enter Try.func23, Try.ntmps23
  go_wp2_with fail
  refine (HP.out _).mono ?_; rintro e w1 ⟨rfl, h⟩; replace h := h.symm; subst h
  go_wp2_with fail
  go_ret2
  exact retL_mk (by rw [HR.out]) rfl (by repeat (first | (with_reducible first | exact Below.refl _ _ | assumption | exact Nat.le_refl _ | refine Below.drew ?_ | refine Below.alloc ?_ ?_ _ | refine Below.setCell ?_ ?_ _ | refine le_alloc ?_ | refine le_set ?_ | refine le_drew ?_ | refine below_step (by assumption) ?_ ?_ | refine le_below (by assumption) ?_) | (dsimp only; omega)))
set_option maxRecDepth 100000 in
theorem look_n (b : Nat) (S : Nat → Nat) (n : Int) (lines now : Nat) (h : Hid (specB n = false)) (hp : Hid (plK n = 38)) (w : World) : Calls Try.prog 23 #[.pointer (some ⟨b, 0, none⟩), .int .i64 n, .int .u64 lines, .int .u64 now] w (RetL (rdF S n lines now) (noughtB n) w) := by
  obtain ⟨e0, e1, e2, e3, e4, e5, e6, e7, e8, e9, e10, e11⟩ := spec_none h.out
  have HR : Hid (rdF S n lines now = 0) := by show _ = _; unfold rdF; rw [if_neg (by rw [h.out]; decide), if_pos hp.out]
  have HP := Lib.hid (fun u => plain_n b n hp.out u)
  have HN := Lib.hid (fun u => isNought_c n u)
  obtain ⟨t, ht⟩ : ∃ t, noughtB n = t := ⟨_, rfl⟩
  rw [ht] at HN ⊢
  clear h hp ht
  go_enter Try.func23, Try.ntmps23
  go_wp2_with fail
  refine (HP.out _).mono ?_; rintro e w1 ⟨rfl, h⟩; replace h := h.symm; subst h
  go_wp2_with fail
  refine (HN.out _).mono ?_; rintro e w1 ⟨rfl, h⟩; replace h := h.symm; subst h
  go_wp2_with fail
  go_ret2
  exact retL_mk (by rw [HR.out]; rfl) rfl (by repeat (first | (with_reducible first | exact Below.refl _ _ | assumption | exact Nat.le_refl _ | refine Below.drew ?_ | refine Below.alloc ?_ ?_ _ | refine Below.setCell ?_ ?_ _ | refine le_alloc ?_ | refine le_set ?_ | refine le_drew ?_ | refine below_step (by assumption) ?_ ?_ | refine le_below (by assumption) ?_) | (dsimp only; omega)))
theorem look_c (b : Nat) (S : Nat → Nat) (n : Int) (lines now : Nat) (hS : Hid (OkS S)) (hl : Hid (lines < 18446744073709551616)) (w : World) (R : Hid (Row w b 26 (cs S))) : Calls Try.prog 23 #[.pointer (some ⟨b, 0, none⟩), .int .i64 n, .int .u64 lines, .int .u64 now] w (RetL (rdF S n lines now) (thereB n) w) := by
  cases h : specB n with
  | true =>
    have e : thereB n = true := by unfold thereB; rw [h]; rfl
    rw [e]
    rcases spec_some h with rfl | rfl | rfl | rfl | rfl | rfl | rfl | rfl | rfl | rfl | rfl | rfl
    · exact look_1 b S lines now hS hl w R
    · exact look_2 b S lines now hS hl w R
    · exact look_3 b S lines now hS hl w R
    · exact look_256 b S lines now hS hl w R
    · exact look_768 b S lines now hS hl w R
    · exact look_260 b S lines now hS hl w R
    · exact look_772 b S lines now hS hl w R
    · exact look_324 b S lines now hS hl w R
    · exact look_836 b S lines now hS hl w R
    · exact look_769 b S lines now hS hl w R
    · exact look_928 b S lines now hS hl w R
    · exact look_3073 b S lines now hS hl w R
  | false =>
    by_cases hp : plK n = 38
    · have e : thereB n = noughtB n := by unfold thereB; rw [h, hp]; rfl
      rw [e]
      exact look_n b S n lines now h hp w
    · have e : thereB n = true := by unfold thereB; rw [h]; simp [hp]
      rw [e]
      exact look_p b S n lines now h hp w R
end Go.Proofs.Ytmlbobjbkbcabaa
