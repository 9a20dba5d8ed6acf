/- The answers that the document fixes. -/
import Derived.Test.YteeifdmnagbjeaaDoorB6
import Derived.KernelRfl
namespace Go.Proofs.YteeifdmnagbjeaaDoor
open Go.ChangeShapes Go.WideShapes Go.ChangeAt Go.RowKit Go.Sort Y
set_option linter.unusedVariables false
set_option linter.unusedSimpArgs false
def Y1 : Nat → Nat := setN Z38 1 4097
def Y2 : Nat → Nat := setN (setN Z38 6 68) 0 133248
def Y3 : Nat → Nat := setN Z38 4 2184
def Y4 : Nat → Nat := setN Z38 4 8
theorem Y1_ok : Hid (OkS Y1) := setN_ok Z38_ok 1 _ (by decide) (by decide)
theorem Y2_ok : Hid (OkS Y2) := setN_ok (setN_ok Z38_ok 6 _ (by decide) (by decide)) 0 _ (by decide) (by decide)
theorem Y3_ok : Hid (OkS Y3) := setN_ok Z38_ok 4 _ (by decide) (by decide)
theorem Y4_ok : Hid (OkS Y4) := setN_ok Z38_ok 4 _ (by decide) (by decide)
theorem Y1_is : cs Y1 = #[.int .u64 0, .int .u64 4097, .int .u64 0, .int .u64 0, .int .u64 0, .int .u64 0, .int .u64 0, .int .u64 0, .int .u64 0, .int .u64 0, .int .u64 0, .int .u64 0, .int .u64 0, .int .u64 0, .int .u64 0, .int .u64 0, .int .u64 0, .int .u64 0, .int .u64 0, .int .u64 0, .int .u64 0, .int .u64 0, .int .u8 0, .int .u8 0, .int .u8 0, .int .u8 0, .int .u8 0, .int .u8 0, .int .u8 0, .int .u8 0, .int .u64 0, .int .u64 0, .int .u64 0, .int .u64 0, .int .u64 0, .int .u64 0, .int .u64 0, .int .u64 0] := by kernel_rfl
theorem Y2_is : cs Y2 = #[.int .u64 133248, .int .u64 0, .int .u64 0, .int .u64 0, .int .u64 0, .int .u64 0, .int .u64 68, .int .u64 0, .int .u64 0, .int .u64 0, .int .u64 0, .int .u64 0, .int .u64 0, .int .u64 0, .int .u64 0, .int .u64 0, .int .u64 0, .int .u64 0, .int .u64 0, .int .u64 0, .int .u64 0, .int .u64 0, .int .u8 0, .int .u8 0, .int .u8 0, .int .u8 0, .int .u8 0, .int .u8 0, .int .u8 0, .int .u8 0, .int .u64 0, .int .u64 0, .int .u64 0, .int .u64 0, .int .u64 0, .int .u64 0, .int .u64 0, .int .u64 0] := by kernel_rfl
theorem Y3_is : cs Y3 = #[.int .u64 0, .int .u64 0, .int .u64 0, .int .u64 0, .int .u64 2184, .int .u64 0, .int .u64 0, .int .u64 0, .int .u64 0, .int .u64 0, .int .u64 0, .int .u64 0, .int .u64 0, .int .u64 0, .int .u64 0, .int .u64 0, .int .u64 0, .int .u64 0, .int .u64 0, .int .u64 0, .int .u64 0, .int .u64 0, .int .u8 0, .int .u8 0, .int .u8 0, .int .u8 0, .int .u8 0, .int .u8 0, .int .u8 0, .int .u8 0, .int .u64 0, .int .u64 0, .int .u64 0, .int .u64 0, .int .u64 0, .int .u64 0, .int .u64 0, .int .u64 0] := by kernel_rfl
theorem Y4_is : cs Y4 = #[.int .u64 0, .int .u64 0, .int .u64 0, .int .u64 0, .int .u64 8, .int .u64 0, .int .u64 0, .int .u64 0, .int .u64 0, .int .u64 0, .int .u64 0, .int .u64 0, .int .u64 0, .int .u64 0, .int .u64 0, .int .u64 0, .int .u64 0, .int .u64 0, .int .u64 0, .int .u64 0, .int .u64 0, .int .u64 0, .int .u8 0, .int .u8 0, .int .u8 0, .int .u8 0, .int .u8 0, .int .u8 0, .int .u8 0, .int .u8 0, .int .u64 0, .int .u64 0, .int .u64 0, .int .u64 0, .int .u64 0, .int .u64 0, .int .u64 0, .int .u64 0] := by kernel_rfl
def T1 : Nat → Nat := toM Y1 0 2147483652 9223372036854775815 5
def T2 : Nat → Nat := setN Y2 0 (lM (Y2 0) 1)
theorem T_vals : T1 6 = 2147483652 ∧ T1 8 = 5 ∧ T2 0 = 136 ∧ vecN (Y1 1) 9223372036854775815 = 4124 ∧ Y2 6 = 68 ∧ mpI (Y2 0) = 1 ∧ delB Y1 9223372036854775815 = false ∧ pendN Y4 128 = 0 ∧ rdyF Y3 2176 true true 0 = 9223372036854775819 := by
  refine ⟨?_, ?_, ?_, ?_, ?_, ?_, ?_, ?_, ?_⟩ <;> decide +kernel
theorem first_0 {f : Nat → Nat} {v : Nat} {b : Bool} (h : firstP f v b) (h0 : f 0 ≠ 0) : v = f 0 ∧ b = true := by
  rcases h with ⟨_, _, h⟩ | ⟨rfl, r, _, rfl, _, h⟩
  · exact absurd (h 0 (by decide)) h0
  · rcases Nat.eq_zero_or_pos r with rfl | hr
    · exact ⟨rfl, rfl⟩
    · exact absurd (h 0 hr) h0
set_option maxRecDepth 100000 in
set_option maxHeartbeats 2000000 in
theorem awake_c (w : World) (hG : Hid (G w)) : Calls Tryd.prog 8 #[] w (RetB true w) := by
  obtain ⟨v1, v2, v3, v4, v5, v6, v7, v8, v9⟩ := T_vals
  have h1 : Hid (∀ u, Calls Tryd.prog 9 #[.agg #[.int .u64 0, .int .u64 4097, .int .u64 0, .int .u64 0, .int .u64 0, .int .u64 0, .int .u64 0, .int .u64 0, .int .u64 0, .int .u64 0, .int .u64 0, .int .u64 0, .int .u64 0, .int .u64 0, .int .u64 0, .int .u64 0, .int .u64 0, .int .u64 0, .int .u64 0, .int .u64 0, .int .u64 0, .int .u64 0, .int .u8 0, .int .u8 0, .int .u8 0, .int .u8 0, .int .u8 0, .int .u8 0, .int .u8 0, .int .u8 0, .int .u64 0, .int .u64 0, .int .u64 0, .int .u64 0, .int .u64 0, .int .u64 0, .int .u64 0, .int .u64 0], .int .i64 0, .int .u64 2147483652, .int .u64 9223372036854775815, .int .u64 5] u (RetE T1 3 4124 u)) := fun u => by
    have := enterM_0 Y1 0 2147483652 9223372036854775815 5 Y1_ok (by show _ < _; decide) (by show _ < _; decide) (by show _ < _; decide) rfl v7 u
    rw [Y1_is, v4] at this; exact this
  have h2 : Hid (∀ u, Calls Tryd.prog 11 #[.agg #[.int .u64 133248, .int .u64 0, .int .u64 0, .int .u64 0, .int .u64 0, .int .u64 0, .int .u64 68, .int .u64 0, .int .u64 0, .int .u64 0, .int .u64 0, .int .u64 0, .int .u64 0, .int .u64 0, .int .u64 0, .int .u64 0, .int .u64 0, .int .u64 0, .int .u64 0, .int .u64 0, .int .u64 0, .int .u64 0, .int .u8 0, .int .u8 0, .int .u8 0, .int .u8 0, .int .u8 0, .int .u8 0, .int .u8 0, .int .u8 0, .int .u64 0, .int .u64 0, .int .u64 0, .int .u64 0, .int .u64 0, .int .u64 0, .int .u64 0, .int .u64 0], .int .i64 49] u (RetE T2 1 68 u)) := fun u => by
    have := retM_1 Y2 Y2_ok v6 u
    rw [Y2_is, v5] at this; exact this
  have h3 : Hid (∀ u, Hid (G u) → Calls Tryd.prog 13 #[.agg #[.int .u64 0, .int .u64 0, .int .u64 0, .int .u64 0, .int .u64 2184, .int .u64 0, .int .u64 0, .int .u64 0, .int .u64 0, .int .u64 0, .int .u64 0, .int .u64 0, .int .u64 0, .int .u64 0, .int .u64 0, .int .u64 0, .int .u64 0, .int .u64 0, .int .u64 0, .int .u64 0, .int .u64 0, .int .u64 0, .int .u8 0, .int .u8 0, .int .u8 0, .int .u8 0, .int .u8 0, .int .u8 0, .int .u8 0, .int .u8 0, .int .u64 0, .int .u64 0, .int .u64 0, .int .u64 0, .int .u64 0, .int .u64 0, .int .u64 0, .int .u64 0], .int .i64 0, .int .u64 2176] u (fun e w' => e = .returned (.tuple #[.int .u64 9223372036854775819, .bool true]) ∧ Below u.heap.size u w')) := fun u hu => by
    have := pending_true_true Y3 0 0 2176 Y3_ok (by show _ < _; decide) rfl (fun x => may_0_3 0 (by show _ < _; decide) x) (fun x => may_0_1 0 (by show _ < _; decide) x) u hu
    rw [Y3_is] at this
    refine this.mono ?_; rintro e w' ⟨v, b, rfl, hf, hb⟩
    obtain ⟨rfl, rfl⟩ := first_0 hf (by rw [v9]; decide)
    rw [v9]; exact ⟨rfl, hb⟩
  have h4 : Hid (∀ u, Calls Tryd.prog 14 #[.agg #[.int .u64 0, .int .u64 0, .int .u64 0, .int .u64 0, .int .u64 8, .int .u64 0, .int .u64 0, .int .u64 0, .int .u64 0, .int .u64 0, .int .u64 0, .int .u64 0, .int .u64 0, .int .u64 0, .int .u64 0, .int .u64 0, .int .u64 0, .int .u64 0, .int .u64 0, .int .u64 0, .int .u64 0, .int .u64 0, .int .u8 0, .int .u8 0, .int .u8 0, .int .u8 0, .int .u8 0, .int .u8 0, .int .u8 0, .int .u8 0, .int .u64 0, .int .u64 0, .int .u64 0, .int .u64 0, .int .u64 0, .int .u64 0, .int .u64 0, .int .u64 0], .int .u64 128] u (RetB true u)) := fun u => by
    have := waits_c Y4 128 Y4_ok (by show _ < _; decide) u
    rw [Y4_is, v8] at this; exact this
  have g1 : (cs T1)[6]? = some (.int .u64 2147483652) := by show some (Value.int .u64 ((T1 6 : Nat) : Int)) = _; rw [v1]; rfl
  have g2 : (cs T1)[8]? = some (.int .u64 5) := by show some (Value.int .u64 ((T1 8 : Nat) : Int)) = _; rw [v2]; rfl
  have g3 : (cs T2)[0]? = some (.int .u64 136) := by show some (Value.int .u64 ((T2 0 : Nat) : Int)) = _; rw [v3]; rfl
  clear v1 v2 v3 v4 v5 v6 v7 v8 v9
  generalize T1 = t1 at *
  generalize T2 = t2 at *
  have HB : Hid (Below w.heap.size w w) := Below.refl _ _
  go_enter Tryd.func8, Tryd.ntmps8
  go_wp2_with fail
  refine (h1.out _).mono ?_; rintro e w1 ⟨rfl, hb⟩
  replace HB := Lib.hid (below_step hb HB.out HB.out.size)
  replace hG := Lib.hid (g_below hG.out hb (g_lt hG.out))
  clear hb
  have R1 : Hid (Row ((w1.alloc (Obj.cells (cs Z38) 26)).setRow w1.heap.size (cs t1)) w1.heap.size 26 (cs t1)) := (row_new _ _ _).setRow _
  replace HB : Hid (Below w.heap.size w ((w1.alloc (Obj.cells (cs Z38) 26)).setRow w1.heap.size (cs t1))) := below_setRow (HB.out.alloc HB.out.size _) HB.out.size _
  replace hG : Hid (G ((w1.alloc (Obj.cells (cs Z38) 26)).setRow w1.heap.size (cs t1))) := g_setRow (g_alloc hG.out _) _ (by have := g_lt hG.out; omega) _
  have hz : ((w1.alloc (Obj.cells (cs Z38) 26)).setRow w1.heap.size (cs t1)).heap.size = w1.heap.size + 1 := by rw [sz_setRow, sz_alloc]
  have HZ := Lib.hid hz
  clear hz
  go_wp2_with ((refine wpList_store_row rfl 26 _ _ rfl w1.heap.size (cs t1) rfl rfl 26 (cs Z38) (row_new _ _ _) (infoS _) rfl (oneS _) ?_))
  refine (h2.out ((w1.alloc (Obj.cells (cs Z38) 26)).setRow w1.heap.size (cs t1))).mono ?_; rintro e w2 ⟨rfl, hb⟩
  replace R1 := Lib.hid (R1.out.below hb (by rw [HZ.out]; omega))
  replace HB := Lib.hid (below_step hb HB.out HB.out.size)
  replace hG := Lib.hid (g_below hG.out hb (g_lt hG.out))
  have HS : Hid (w1.heap.size < w2.heap.size) := by have := hb.size; rw [HZ.out] at this; exact this
  clear hb HZ
  have R2 : Hid (Row ((w2.alloc (Obj.cells (cs Z38) 26)).setRow w2.heap.size (cs t2)) w2.heap.size 26 (cs t2)) := (row_new _ _ _).setRow _
  replace R1 : Hid (Row ((w2.alloc (Obj.cells (cs Z38) 26)).setRow w2.heap.size (cs t2)) w1.heap.size 26 (cs t1)) := (row_old R1.out _).setRow_ne (by have := HS.out; omega) _
  replace HB : Hid (Below w.heap.size w ((w2.alloc (Obj.cells (cs Z38) 26)).setRow w2.heap.size (cs t2))) := below_setRow (HB.out.alloc HB.out.size _) HB.out.size _
  replace hG : Hid (G ((w2.alloc (Obj.cells (cs Z38) 26)).setRow w2.heap.size (cs t2))) := g_setRow (g_alloc hG.out _) _ (by have := g_lt hG.out; omega) _
  have hz : ((w2.alloc (Obj.cells (cs Z38) 26)).setRow w2.heap.size (cs t2)).heap.size = w2.heap.size + 1 := by rw [sz_setRow, sz_alloc]
  have HZ := Lib.hid hz
  clear hz
  go_wp2_with ((refine wpList_store_row rfl 26 _ _ rfl w2.heap.size (cs t2) rfl rfl 26 (cs Z38) (row_new _ _ _) (infoS _) rfl (oneS _) ?_))
  refine (h3.out ((w2.alloc (Obj.cells (cs Z38) 26)).setRow w2.heap.size (cs t2)) hG).mono ?_; rintro e w3 ⟨rfl, hb⟩
  replace R1 := Lib.hid (R1.out.below hb (by rw [HZ.out]; have := HS.out; omega))
  replace R2 := Lib.hid (R2.out.below hb (by rw [HZ.out]; omega))
  replace HB := Lib.hid (below_step hb HB.out HB.out.size)
  clear hb HZ HS hG
  have k1 := (R1.out.cell 6).trans g1
  have k2 := (R1.out.cell 8).trans g2
  have k3 := (R2.out.cell 0).trans g3
  clear R1 R2 g1 g2 g3 h1 h2 h3
  go_wp2_with fail
  refine (h4.out _).mono ?_; rintro e w4 ⟨rfl, hb⟩
  replace HB := Lib.hid (below_step hb HB.out HB.out.size)
  clear hb k1 k2 k3
  go_wp2_with fail
  go_ret
  exact retB_mk rfl HB.out
end Go.Proofs.YteeifdmnagbjeaaDoor
