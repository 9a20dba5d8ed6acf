/- Taken from other texts: what is needed of them. -/
import Derived.Test.YtmlbobjbkbcabaaPA
import Derived.Test.YtmlbobjbkbcabaaPB
namespace Go.Proofs.Ytmlbobjbkbcabaa.P
set_option linter.unusedVariables false
set_option linter.unusedSimpArgs false
set_option maxRecDepth 20000
open Go.ChangeShapes Go.WideShapes Go.ChangeAt Go.RowKit
theorem rows4 (w : World) (x y z z' : Array Value) (t u v v' : TypeId) : Row ((((w.alloc (Obj.cells x t)).alloc (Obj.cells y u)).alloc (Obj.cells z v)).alloc (Obj.cells z' v')) w.heap.size t x ∧
    Row ((((w.alloc (Obj.cells x t)).alloc (Obj.cells y u)).alloc (Obj.cells z v)).alloc (Obj.cells z' v')) (w.heap.size + 1) u y ∧ Row ((((w.alloc (Obj.cells x t)).alloc (Obj.cells y u)).alloc (Obj.cells z v)).alloc (Obj.cells z' v')) (w.heap.size + 2) v z ∧
    Row ((((w.alloc (Obj.cells x t)).alloc (Obj.cells y u)).alloc (Obj.cells z v)).alloc (Obj.cells z' v')) (w.heap.size + 3) v' z' := by
  obtain ⟨a, b, c⟩ := rows3 w x y z t u v
  have d := row_new (((w.alloc (Obj.cells x t)).alloc (Obj.cells y u)).alloc (Obj.cells z v)) z' v'
  rw [sz_alloc, sz_alloc, sz_alloc] at d
  exact ⟨row_old a _, row_old b _, row_old c _, d⟩
set_option maxRecDepth 100000 in
theorem AddressR_l (c a : Nat → Nat) (n : Int) (v : Nat) (h : n < 0) (w : World) :
    Calls Try.prog 53 #[.agg (u8s c), .agg (u64s a), .int .i64 n, .int .u64 v] w (RetA (u64s a) w) := by
  have rr := rows4 w (u8s c) (u64s a) (u64s (fun _ => 0)) (u64s (fun _ => 0)) 23 24 24 24
  obtain ⟨W0, hW0⟩ : ∃ W0, W0 = ((((w.alloc (Obj.cells (u8s c) 23)).alloc (Obj.cells (u64s a) 24)).alloc (Obj.cells #[.int .u64 0, .int .u64 0, .int .u64 0, .int .u64 0, .int .u64 0, .int .u64 0, .int .u64 0, .int .u64 0] 24)).alloc (Obj.cells #[.int .u64 0, .int .u64 0, .int .u64 0, .int .u64 0, .int .u64 0, .int .u64 0, .int .u64 0, .int .u64 0] 24)).setRow (w.heap.size + 3) (u64s a) := ⟨_, rfl⟩
  have R0 := Lib.hid rr.2.2.2
  have q1 := rows3 w (u8s c) (u64s a) (u64s (fun _ => 0)) 23 24 24
  have L0 := Lib.hid q1.2.1
  have R1 : Hid (Row W0 w.heap.size 23 (u8s c)) := by show Row _ _ _ _; rw [hW0]; exact rr.1.setRow_ne (by omega) _
  have R3 : Hid (Row W0 (w.heap.size + 2) 24 (u64s (fun _ => 0))) := by show Row _ _ _ _; rw [hW0]; exact rr.2.2.1.setRow_ne (by omega) _
  have R4 : Hid (Row W0 (w.heap.size + 3) 24 (u64s a)) := by show Row _ _ _ _; rw [hW0]; exact rr.2.2.2.setRow _
  have HB : Hid (Below w.heap.size w W0) := by show Below _ _ _; rw [hW0]; exact below_setRow (by exact (by repeat (first | (with_reducible first | exact Below.refl _ _ | assumption | exact Nat.le_refl _ | refine Below.drew ?_ | refine Below.alloc ?_ ?_ _ | refine Below.setCell ?_ ?_ _ | refine le_alloc ?_ | refine le_set ?_ | refine le_drew ?_ | refine below_step (by assumption) ?_ ?_ | refine le_below (by assumption) ?_) | (dsimp only; omega)))) (by omega) _
  have HW := Lib.hid hW0
  clear rr hW0 q1
  go_enter Try.func53, Try.ntmps53
  go_wp2_with (first
      | (refine wpList_load_row rfl 24 _ rfl (w.heap.size + 1) rfl 24 (u64s a) (0, 0) _ L0.out Try.underlying24 rfl (info8a _) ?_)
      | (refine wpList_store_row rfl 24 _ _ rfl (w.heap.size + 3) (u64s a) rfl rfl 24 (u64s (fun _ => 0)) R0.out (info8a _) rfl (one8a _) ?_; rw [← HW.out])
      | (refine wpList_load_row rfl 24 _ rfl (w.heap.size + 3) rfl 24 (u64s a) (0, 0) _ R4.out Try.underlying24 rfl (info8a _) ?_)
      | (refine wpList_store_row rfl 24 _ _ rfl (w.heap.size + 2) (u64s a) rfl rfl 24 (u64s (fun _ => 0)) R3.out (info8a _) rfl (one8a _) ?_))
  refine bodyPost_ret (results_cell_row rfl _ _ (w.heap.size + 2) 24 (u64s a) (0, 0) _ rfl (R3.out.setRow _) Try.underlying24 rfl (info8a _)) rfl ?_
  exact ⟨rfl, below_setRow HB.out (by omega) _⟩
set_option maxRecDepth 100000 in
theorem AddressR_g (c a : Nat → Nat) (n : Int) (v : Nat) (h0 : ¬ n < 0) (h : n > 7) (w : World) :
    Calls Try.prog 53 #[.agg (u8s c), .agg (u64s a), .int .i64 n, .int .u64 v] w (RetA (u64s a) w) := by
  have rr := rows4 w (u8s c) (u64s a) (u64s (fun _ => 0)) (u64s (fun _ => 0)) 23 24 24 24
  obtain ⟨W0, hW0⟩ : ∃ W0, W0 = ((((w.alloc (Obj.cells (u8s c) 23)).alloc (Obj.cells (u64s a) 24)).alloc (Obj.cells #[.int .u64 0, .int .u64 0, .int .u64 0, .int .u64 0, .int .u64 0, .int .u64 0, .int .u64 0, .int .u64 0] 24)).alloc (Obj.cells #[.int .u64 0, .int .u64 0, .int .u64 0, .int .u64 0, .int .u64 0, .int .u64 0, .int .u64 0, .int .u64 0] 24)).setRow (w.heap.size + 3) (u64s a) := ⟨_, rfl⟩
  have R0 := Lib.hid rr.2.2.2
  have q1 := rows3 w (u8s c) (u64s a) (u64s (fun _ => 0)) 23 24 24
  have L0 := Lib.hid q1.2.1
  have R1 : Hid (Row W0 w.heap.size 23 (u8s c)) := by show Row _ _ _ _; rw [hW0]; exact rr.1.setRow_ne (by omega) _
  have R3 : Hid (Row W0 (w.heap.size + 2) 24 (u64s (fun _ => 0))) := by show Row _ _ _ _; rw [hW0]; exact rr.2.2.1.setRow_ne (by omega) _
  have R4 : Hid (Row W0 (w.heap.size + 3) 24 (u64s a)) := by show Row _ _ _ _; rw [hW0]; exact rr.2.2.2.setRow _
  have HB : Hid (Below w.heap.size w W0) := by show Below _ _ _; rw [hW0]; exact below_setRow (by exact (by repeat (first | (with_reducible first | exact Below.refl _ _ | assumption | exact Nat.le_refl _ | refine Below.drew ?_ | refine Below.alloc ?_ ?_ _ | refine Below.setCell ?_ ?_ _ | refine le_alloc ?_ | refine le_set ?_ | refine le_drew ?_ | refine below_step (by assumption) ?_ ?_ | refine le_below (by assumption) ?_) | (dsimp only; omega)))) (by omega) _
  have HW := Lib.hid hW0
  clear rr hW0 q1
  go_enter Try.func53, Try.ntmps53
  go_wp2_with (first
      | (refine wpList_load_row rfl 24 _ rfl (w.heap.size + 1) rfl 24 (u64s a) (0, 0) _ L0.out Try.underlying24 rfl (info8a _) ?_)
      | (refine wpList_store_row rfl 24 _ _ rfl (w.heap.size + 3) (u64s a) rfl rfl 24 (u64s (fun _ => 0)) R0.out (info8a _) rfl (one8a _) ?_; rw [← HW.out])
      | (refine wpList_load_row rfl 24 _ rfl (w.heap.size + 3) rfl 24 (u64s a) (0, 0) _ R4.out Try.underlying24 rfl (info8a _) ?_)
      | (refine wpList_store_row rfl 24 _ _ rfl (w.heap.size + 2) (u64s a) rfl rfl 24 (u64s (fun _ => 0)) R3.out (info8a _) rfl (one8a _) ?_))
  refine bodyPost_ret (results_cell_row rfl _ _ (w.heap.size + 2) 24 (u64s a) (0, 0) _ rfl (R3.out.setRow _) Try.underlying24 rfl (info8a _)) rfl ?_
  exact ⟨rfl, below_setRow HB.out (by omega) _⟩
set_option maxRecDepth 100000 in
theorem AddressR_0 (c a : Nat → Nat) (n v : Nat) (hn : n < 8) (h7 : n < 7) (hc : Hid (OkC c)) (ha : Hid (OkA a)) (hv : Hid (v < 18446744073709551616)) (w : World) :
    Calls Try.prog 53 #[.agg (u8s c), .agg (u64s a), .int .i64 n, .int .u64 v] w (RetA (u64s (adrF c a n v)) w) := by
  have n8 : ¬ (n : Int) > 7 := by omega
  have n0 : ((n : Nat) : Int).toNat = n := by omega
  have HL := Lib.hid (fun v => bit_7 (c n) (hc.out n) v)
  rw [bit_lock (c n) (hc.out n)] at HL
  have HA := Lib.hid (fun u => address_c v hv.out u)
  obtain ⟨L, eL⟩ : ∃ L, L = lockB (c n) := ⟨_, rfl⟩
  rw [← eL] at HL
  have n7 : (n : Int) < 7 := by omega
  obtain ⟨m, hm⟩ : ∃ m, m = n + 1 := ⟨_, rfl⟩
  have m8 : (m : Int) < 8 := by omega
  have m0 : ((m : Nat) : Int).toNat = m := by omega
  have m1 : wrap64 ((n : Int) + 1) = (m : Int) := by rw [IntWalk.wrap64_in _ ⟨by omega, by omega⟩]; omega
  have m2 : (n : Int) + 1 = (m : Int) := by omega
  have HM := Lib.hid (fun v => bit_7 (c m) (hc.out m) v)
  rw [bit_lock (c m) (hc.out m)] at HM
  have HY := Lib.hid (fun v => way_c (c m) (hc.out m) v)
  obtain ⟨M, eM⟩ : ∃ M, M = lockB (c m) := ⟨_, rfl⟩
  obtain ⟨Y, eY⟩ : ∃ Y, Y = wayN (c m) := ⟨_, rfl⟩
  rw [← eM] at HM
  rw [← eY] at HY
  obtain ⟨Q, eQ⟩ : ∃ Q, Q = ((Y : Int) == 1) := ⟨_, rfl⟩
  have hh : heldB c n = (L || (M && Q)) := by
    rw [eL, eM, eQ, eY, hm]; unfold heldB
    rw [show decide (n < 7) = true by simp [h7], Bool.true_and]
    congr 2
    rw [Bool.eq_iff_iff]; simp; omega
  have HQ := Lib.hid eQ
  have HH := Lib.hid hh
  have rr := rows4 w (u8s c) (u64s a) (u64s (fun _ => 0)) (u64s (fun _ => 0)) 23 24 24 24
  obtain ⟨W0, hW0⟩ : ∃ W0, W0 = ((((w.alloc (Obj.cells (u8s c) 23)).alloc (Obj.cells (u64s a) 24)).alloc (Obj.cells #[.int .u64 0, .int .u64 0, .int .u64 0, .int .u64 0, .int .u64 0, .int .u64 0, .int .u64 0, .int .u64 0] 24)).alloc (Obj.cells #[.int .u64 0, .int .u64 0, .int .u64 0, .int .u64 0, .int .u64 0, .int .u64 0, .int .u64 0, .int .u64 0] 24)).setRow (w.heap.size + 3) (u64s a) := ⟨_, rfl⟩
  have R0 := Lib.hid rr.2.2.2
  have q1 := rows3 w (u8s c) (u64s a) (u64s (fun _ => 0)) 23 24 24
  have L0 := Lib.hid q1.2.1
  have R1 : Hid (Row W0 w.heap.size 23 (u8s c)) := by show Row _ _ _ _; rw [hW0]; exact rr.1.setRow_ne (by omega) _
  have R3 : Hid (Row W0 (w.heap.size + 2) 24 (u64s (fun _ => 0))) := by show Row _ _ _ _; rw [hW0]; exact rr.2.2.1.setRow_ne (by omega) _
  have R4 : Hid (Row W0 (w.heap.size + 3) 24 (u64s a)) := by show Row _ _ _ _; rw [hW0]; exact rr.2.2.2.setRow _
  have HB : Hid (Below w.heap.size w W0) := by show Below _ _ _; rw [hW0]; exact below_setRow (by exact (by repeat (first | (with_reducible first | exact Below.refl _ _ | assumption | exact Nat.le_refl _ | refine Below.drew ?_ | refine Below.alloc ?_ ?_ _ | refine Below.setCell ?_ ?_ _ | refine le_alloc ?_ | refine le_set ?_ | refine le_drew ?_ | refine below_step (by assumption) ?_ ?_ | refine le_below (by assumption) ?_) | (dsimp only; omega)))) (by omega) _
  have HW := Lib.hid hW0
  clear rr hW0 q1
  have c0 := R1.out.cell n
  rw [u8s_at c n hn] at c0
  have c1 := R1.out.cell m
  rw [u8s_at c m (by omega)] at c1
  have rc := R4.out.cell n
  rw [u64s_at a n hn] at rc
  have rf := R4.out.fz n
  have RN : Hid (heldB c n = false → Row (W0.setCell ⟨w.heap.size + 3, n, none⟩ (.int .u64 (adr v : Nat))) (w.heap.size + 3) 24 (u64s (adrF c a n v))) := fun h => by
    have := R4.out.set n (.int .u64 (adr v : Nat))
    rw [u64s_set _ _ _ hn, adr_set h] at this
    exact this
  have i0 : w.heap.size + 3 ≠ w.heap.size + 2 := by omega
  have R3N := Lib.hid (R3.out.set_ne (b' := w.heap.size + 3) i0 n (.int .u64 (adr v : Nat)))
  have HBN := Lib.hid (show Below w.heap.size w (W0.setCell ⟨w.heap.size + 3, n, none⟩ (.int .u64 (adr v : Nat))) from Below.setCell HB.out (Nat.le_add_right _ 3) _)
  clear hh eL eM eY hm eQ
  go_enter Try.func53, Try.ntmps53
  go_wp2_with (first
      | (refine wpList_load_row rfl 24 _ rfl (w.heap.size + 1) rfl 24 (u64s a) (0, 0) _ L0.out Try.underlying24 rfl (info8a _) ?_)
      | (refine wpList_store_row rfl 24 _ _ rfl (w.heap.size + 3) (u64s a) rfl rfl 24 (u64s (fun _ => 0)) R0.out (info8a _) rfl (one8a _) ?_; rw [← HW.out]; clear HW))
  refine (HL.out _).mono ?_; rintro e w1 ⟨rfl, h⟩; replace h := h.symm; subst h
  go_wp2_with fail

  refine (HM.out _).mono ?_; rintro e w1 ⟨rfl, h⟩; replace h := h.symm; subst h
  cases L with
  | true =>
    cases M
    all_goals
      have hh : heldB c n = true := by first | exact HH.out | (rw [HH.out]; rfl)
      go_wp2_with (first
        | (refine wpList_load_row rfl 24 _ rfl (w.heap.size + 3) rfl 24 (u64s a) (0, 0) _ R4.out Try.underlying24 rfl (info8a _) ?_)
        | (refine wpList_store_row rfl 24 _ _ rfl (w.heap.size + 2) (u64s a) rfl rfl 24 (u64s (fun _ => 0)) R3.out (info8a _) rfl (one8a _) ?_))
      refine bodyPost_ret (results_cell_row rfl _ _ (w.heap.size + 2) 24 (u64s a) (0, 0) _ rfl (R3.out.setRow _) Try.underlying24 rfl (info8a _)) rfl ?_
      exact ⟨(by rw [← adr_keep hh]), below_setRow HB.out (by omega) _⟩
  | false =>
    cases M with
    | false =>
      have hh : heldB c n = false := by first | exact HH.out | (rw [HH.out]; rfl)
      replace R4 := Lib.hid (RN.out hh)
      replace R3 := R3N
      replace HB := HBN
      go_wp2_with fail
      refine (HA.out _).mono ?_; rintro e w2 ⟨rfl, h⟩; replace h := h.symm; subst h
      go_wp2_with (first
        | (refine wpList_load_row rfl 24 _ rfl (w.heap.size + 3) rfl 24 (u64s (adrF c a n v)) (0, 0) _ R4.out Try.underlying24 rfl (info8a _) ?_)
        | (refine wpList_store_row rfl 24 _ _ rfl (w.heap.size + 2) (u64s (adrF c a n v)) rfl rfl 24 (u64s (fun _ => 0)) R3.out (info8a _) rfl (one8a _) ?_))
      refine bodyPost_ret (results_cell_row rfl _ _ (w.heap.size + 2) 24 (u64s (adrF c a n v)) (0, 0) _ rfl (R3.out.setRow _) Try.underlying24 rfl (info8a _)) rfl ?_
      exact ⟨rfl, below_setRow HB.out (by omega) _⟩
    | true =>
      go_wp2_with fail
      refine (HY.out _).mono ?_; rintro e w2 ⟨rfl, h⟩; replace h := h.symm; subst h
      have eQ := HQ.out.symm
      cases Q with
      | true =>
        have hh : heldB c n = true := by first | exact HH.out | (rw [HH.out]; rfl)
        go_wp2_with (first
          | (refine wpList_load_row rfl 24 _ rfl (w.heap.size + 3) rfl 24 (u64s a) (0, 0) _ R4.out Try.underlying24 rfl (info8a _) ?_)
          | (refine wpList_store_row rfl 24 _ _ rfl (w.heap.size + 2) (u64s a) rfl rfl 24 (u64s (fun _ => 0)) R3.out (info8a _) rfl (one8a _) ?_))
        refine bodyPost_ret (results_cell_row rfl _ _ (w.heap.size + 2) 24 (u64s a) (0, 0) _ rfl (R3.out.setRow _) Try.underlying24 rfl (info8a _)) rfl ?_
        exact ⟨(by rw [← adr_keep hh]), below_setRow HB.out (by omega) _⟩
      | false =>
        have hh : heldB c n = false := by first | exact HH.out | (rw [HH.out]; rfl)
        replace R4 := Lib.hid (RN.out hh)
        replace R3 := R3N
        replace HB := HBN
        go_wp2_with fail
        refine (HA.out _).mono ?_; rintro e w2 ⟨rfl, h⟩; replace h := h.symm; subst h
        go_wp2_with (first
          | (refine wpList_load_row rfl 24 _ rfl (w.heap.size + 3) rfl 24 (u64s (adrF c a n v)) (0, 0) _ R4.out Try.underlying24 rfl (info8a _) ?_)
          | (refine wpList_store_row rfl 24 _ _ rfl (w.heap.size + 2) (u64s (adrF c a n v)) rfl rfl 24 (u64s (fun _ => 0)) R3.out (info8a _) rfl (one8a _) ?_))
        refine bodyPost_ret (results_cell_row rfl _ _ (w.heap.size + 2) 24 (u64s (adrF c a n v)) (0, 0) _ rfl (R3.out.setRow _) Try.underlying24 rfl (info8a _)) rfl ?_
        exact ⟨rfl, below_setRow HB.out (by omega) _⟩
set_option maxRecDepth 100000 in
theorem AddressR_1 (c a : Nat → Nat) (n v : Nat) (hn : n < 8) (h7 : ¬ n < 7) (hc : Hid (OkC c)) (ha : Hid (OkA a)) (hv : Hid (v < 18446744073709551616)) (w : World) :
    Calls Try.prog 53 #[.agg (u8s c), .agg (u64s a), .int .i64 n, .int .u64 v] w (RetA (u64s (adrF c a n v)) w) := by
  have n8 : ¬ (n : Int) > 7 := by omega
  have n0 : ((n : Nat) : Int).toNat = n := by omega
  have HL := Lib.hid (fun v => bit_7 (c n) (hc.out n) v)
  rw [bit_lock (c n) (hc.out n)] at HL
  have HA := Lib.hid (fun u => address_c v hv.out u)
  obtain ⟨L, eL⟩ : ∃ L, L = lockB (c n) := ⟨_, rfl⟩
  rw [← eL] at HL
  have n7 : ¬ (n : Int) < 7 := by omega
  have hh : heldB c n = L := by
    rw [eL]; unfold heldB
    rw [show decide (n < 7) = false by simp [h7], Bool.false_and, Bool.false_and, Bool.or_false]
  have HH := Lib.hid hh
  have rr := rows4 w (u8s c) (u64s a) (u64s (fun _ => 0)) (u64s (fun _ => 0)) 23 24 24 24
  obtain ⟨W0, hW0⟩ : ∃ W0, W0 = ((((w.alloc (Obj.cells (u8s c) 23)).alloc (Obj.cells (u64s a) 24)).alloc (Obj.cells #[.int .u64 0, .int .u64 0, .int .u64 0, .int .u64 0, .int .u64 0, .int .u64 0, .int .u64 0, .int .u64 0] 24)).alloc (Obj.cells #[.int .u64 0, .int .u64 0, .int .u64 0, .int .u64 0, .int .u64 0, .int .u64 0, .int .u64 0, .int .u64 0] 24)).setRow (w.heap.size + 3) (u64s a) := ⟨_, rfl⟩
  have R0 := Lib.hid rr.2.2.2
  have q1 := rows3 w (u8s c) (u64s a) (u64s (fun _ => 0)) 23 24 24
  have L0 := Lib.hid q1.2.1
  have R1 : Hid (Row W0 w.heap.size 23 (u8s c)) := by show Row _ _ _ _; rw [hW0]; exact rr.1.setRow_ne (by omega) _
  have R3 : Hid (Row W0 (w.heap.size + 2) 24 (u64s (fun _ => 0))) := by show Row _ _ _ _; rw [hW0]; exact rr.2.2.1.setRow_ne (by omega) _
  have R4 : Hid (Row W0 (w.heap.size + 3) 24 (u64s a)) := by show Row _ _ _ _; rw [hW0]; exact rr.2.2.2.setRow _
  have HB : Hid (Below w.heap.size w W0) := by show Below _ _ _; rw [hW0]; exact below_setRow (by exact (by repeat (first | (with_reducible first | exact Below.refl _ _ | assumption | exact Nat.le_refl _ | refine Below.drew ?_ | refine Below.alloc ?_ ?_ _ | refine Below.setCell ?_ ?_ _ | refine le_alloc ?_ | refine le_set ?_ | refine le_drew ?_ | refine below_step (by assumption) ?_ ?_ | refine le_below (by assumption) ?_) | (dsimp only; omega)))) (by omega) _
  have HW := Lib.hid hW0
  clear rr hW0 q1
  have c0 := R1.out.cell n
  rw [u8s_at c n hn] at c0
  have rc := R4.out.cell n
  rw [u64s_at a n hn] at rc
  have rf := R4.out.fz n
  have RN : Hid (heldB c n = false → Row (W0.setCell ⟨w.heap.size + 3, n, none⟩ (.int .u64 (adr v : Nat))) (w.heap.size + 3) 24 (u64s (adrF c a n v))) := fun h => by
    have := R4.out.set n (.int .u64 (adr v : Nat))
    rw [u64s_set _ _ _ hn, adr_set h] at this
    exact this
  have i0 : w.heap.size + 3 ≠ w.heap.size + 2 := by omega
  have R3N := Lib.hid (R3.out.set_ne (b' := w.heap.size + 3) i0 n (.int .u64 (adr v : Nat)))
  have HBN := Lib.hid (show Below w.heap.size w (W0.setCell ⟨w.heap.size + 3, n, none⟩ (.int .u64 (adr v : Nat))) from Below.setCell HB.out (Nat.le_add_right _ 3) _)
  clear hh eL
  go_enter Try.func53, Try.ntmps53
  go_wp2_with (first
      | (refine wpList_load_row rfl 24 _ rfl (w.heap.size + 1) rfl 24 (u64s a) (0, 0) _ L0.out Try.underlying24 rfl (info8a _) ?_)
      | (refine wpList_store_row rfl 24 _ _ rfl (w.heap.size + 3) (u64s a) rfl rfl 24 (u64s (fun _ => 0)) R0.out (info8a _) rfl (one8a _) ?_; rw [← HW.out]; clear HW))
  refine (HL.out _).mono ?_; rintro e w1 ⟨rfl, h⟩; replace h := h.symm; subst h

  cases L with
  | true =>
    have hh : heldB c n = true := by first | exact HH.out | (rw [HH.out]; rfl)
    go_wp2_with (first
      | (refine wpList_load_row rfl 24 _ rfl (w.heap.size + 3) rfl 24 (u64s a) (0, 0) _ R4.out Try.underlying24 rfl (info8a _) ?_)
      | (refine wpList_store_row rfl 24 _ _ rfl (w.heap.size + 2) (u64s a) rfl rfl 24 (u64s (fun _ => 0)) R3.out (info8a _) rfl (one8a _) ?_))
    refine bodyPost_ret (results_cell_row rfl _ _ (w.heap.size + 2) 24 (u64s a) (0, 0) _ rfl (R3.out.setRow _) Try.underlying24 rfl (info8a _)) rfl ?_
    exact ⟨(by rw [← adr_keep hh]), below_setRow HB.out (by omega) _⟩
  | false =>
    have hh : heldB c n = false := by first | exact HH.out | (rw [HH.out]; rfl)
    replace R4 := Lib.hid (RN.out hh)
    replace R3 := R3N
    replace HB := HBN
    go_wp2_with fail
    refine (HA.out _).mono ?_; rintro e w2 ⟨rfl, h⟩; replace h := h.symm; subst h
    go_wp2_with (first
      | (refine wpList_load_row rfl 24 _ rfl (w.heap.size + 3) rfl 24 (u64s (adrF c a n v)) (0, 0) _ R4.out Try.underlying24 rfl (info8a _) ?_)
      | (refine wpList_store_row rfl 24 _ _ rfl (w.heap.size + 2) (u64s (adrF c a n v)) rfl rfl 24 (u64s (fun _ => 0)) R3.out (info8a _) rfl (one8a _) ?_))
    refine bodyPost_ret (results_cell_row rfl _ _ (w.heap.size + 2) 24 (u64s (adrF c a n v)) (0, 0) _ rfl (R3.out.setRow _) Try.underlying24 rfl (info8a _)) rfl ?_
    exact ⟨rfl, below_setRow HB.out (by omega) _⟩
theorem AddressR_c (c a : Nat → Nat) (n v : Nat) (hn : n < 8) (hc : Hid (OkC c)) (ha : Hid (OkA a)) (hv : Hid (v < 18446744073709551616)) (w : World) :
    Calls Try.prog 53 #[.agg (u8s c), .agg (u64s a), .int .i64 n, .int .u64 v] w (RetA (u64s (adrF c a n v)) w) := by
  by_cases h : n < 7
  · exact AddressR_0 c a n v hn h hc ha hv w
  · exact AddressR_1 c a n v hn h hc ha hv w
theorem AddressR_no (c a : Nat → Nat) (n : Int) (v : Nat) (hn : ¬ (0 ≤ n ∧ n < 8)) (w : World) :
    Calls Try.prog 53 #[.agg (u8s c), .agg (u64s a), .int .i64 n, .int .u64 v] w (RetA (u64s a) w) := by
  by_cases h : n < 0
  · exact AddressR_l c a n v h w
  · exact AddressR_g c a n v h (by omega) w
end Go.Proofs.Ytmlbobjbkbcabaa.P
