/- The contract of Shrink. -/
import Derived.Test.YtcfeeookjgdkmaaDoorB10
import Derived.Test.YtcfeeookjgdkmaaDoorB11
import Derived.Laws.Rows
namespace Go.Proofs.YtcfeeookjgdkmaaDoor
open Go.ChangeShapes Go.WideShapes Go.ChangeAt Go.RowKit Go.Sort
set_option linter.unusedVariables false
set_option linter.unusedSimpArgs false

theorem shr_step {x k : Nat} {r : SRow} (hr : rowsL[k]? = some r) : shrF (rowsL.take (k + 1)) x = stepS x (shrF (rowsL.take k) x) r := by
  unfold shrF
  rw [List.take_add_one, hr, List.foldl_append]; rfl
theorem q_p {W : World} {dd : Nat} {os : Array Obj} {f : FuncId} {args : Array Value} {n : Nat} {b : Bool} (c : Calls Tryd.prog f args (grow (redrawn W dd) os) (RetQ n b (grow (redrawn W dd) os))) :
    Calls Tryd.prog f args (grow (redrawn W dd) os) fun e w'' => e = .returned (.tuple #[.int .u16 n, .bool b]) ∧ ∃ p : Regrown, w'' = grow (redrawn W p.d) p.os := Calls.regrown_of (c.mono fun _ _ h' => ⟨by rw [h'.1], h'.2⟩)
theorem step_eq (x n : Nat) (b : Bool) (r : SRow) (a : Nat) (s : Bool) (h : attF r x = (a, s)) : stepS x (n, b) r = if s && (!b || decide (a < n)) then (a, true) else (n, b) := by unfold stepS; rw [h]
set_option maxRecDepth 100000 in
set_option maxHeartbeats 1500000 in
theorem Shrink_c (x : Nat) (hx : Hid (x < 4294967296)) (w : World) (hG : Hid (G w)) : Calls Tryd.prog 12 #[.int .u32 x] w (RetQ (shrinkF x).1 (shrinkF x).2 w) := by
  have hv35 := (zero_of_info zero35).1
  have zr := size_rows
  have hz : (noughtT 36).size = 252 := by decide +kernel
  have u35 := under35
  go_enter Tryd.func12, Tryd.ntmps12
  go_wp2_with fail
  refine (rows_c _).mono ?_; rintro e w1 ⟨rfl, hb1⟩
  have hsc := run_storeCells_new (P := Tryd.prog) w1 35 (noughtT 36) (cellsT rowsL) (by rw [size_rows]; exact (zero_of_info zero35).2) (by decide +kernel) one_rows
  have hld := run_loadVar_new (P := Tryd.prog) w1 35 (cellsT rowsL) 36 34 under35 (by rw [size_rows]; exact (zero_of_info zero35).2)
  have HS := Lib.hid hsc; have HL := Lib.hid hld
  clear hsc hld
  go_wp2_with fail
  simp only [HS.out, Result.andThen]
  rw [Oper.upon_skip]
  go_wp2_with fail
  have hb2 : Below w.heap.size w (w1.alloc (Obj.cells (cellsT rowsL) 35)) := hb1.alloc hb1.size _
  have HT := Lib.hid (tab_new w1)
  obtain ⟨B, hB⟩ : ∃ B, B = w1.heap.size := ⟨_, rfl⟩
  have hB2 : B < (w1.alloc (Obj.cells (cellsT rowsL) 35)).heap.size := by rw [sz_alloc]; omega
  have hBw : w.heap.size ≤ B := by have := hb1.size; omega
  have hg1 : (w1.alloc (Obj.cells (cellsT rowsL) 35)).heap[B]? = some (.cells (cellsT rowsL) 35 (0, 0)) := by rw [hB]; exact heap_alloc_last w1 _
  have hi1 : (Tryd.prog.info? 35).map (·.size) = some (cellsT rowsL).size := by rw [size_rows]; exact (zero_of_info zero35).2
  rw [← hB] at HT ⊢
  refine wp_load_row 35 _ rfl B rfl 35 (cellsT rowsL) (0, 0) _ hg1 under35 rfl hi1 ?_
  clear hg1 hi1 hB
  go_wp2_with fail
  go_loopw [5, 6, 13] (fun l f i wr => ∃ k n : Nat, ∃ b : Bool, k ≤ 36 ∧ l = .int .u16 n ∧ f = .bool b ∧ i = .int .i64 k ∧ Hid (shrF (rowsL.take k) x = (n, b)) ∧ Hid (TabAt wr B) ∧ B < wr.heap.size ∧ Below w.heap.size w wr) (fun _ _ i _ => 36 - (intOf i).toNat)
  case atStart => exact ⟨0, 0, false, by omega, rfl, rfl, rfl, rfl, HT, hB2, hb2⟩
  case round =>
    clear HT HS HL hB2 hb2 hb1
    obtain ⟨k, n, bl, hk, rfl, rfl, rfl, hN, hT, hBr, hbw⟩ := hrel
    by_cases hlt : k < 36
    · have hlt' : (k : Int) < 36 := by omega
      obtain ⟨r, hr⟩ : ∃ r, rowsL[k]? = some r := ⟨_, List.getElem?_eq_getElem (show k < rowsL.length from hlt)⟩
      have HR := Lib.hid (shr_step (x := x) hr)
      have HO : Hid (OkS r) := ok_rows r (List.mem_of_getElem? hr)
      have hix := fun v => ix_c k hlt r hr v
      have hat := Lib.hid (fun v g B hB hC cap => attempt_c r HO x hx v g B hB hC cap)
      obtain ⟨⟨a, st⟩, hA⟩ : ∃ p, p = attF r x := ⟨_, rfl⟩
      rw [← hA] at hat
      dsimp only at hat
      have HQ := Lib.hid (step_eq x n bl r a st hA.symm)
      rw [hN.out, HQ.out] at HR
      clear hr hA HO HQ
      obtain ⟨m, mt, s, b, nm, i, f⟩ := r
      have hix' : ∀ v : World, (Instr.index 35 (.agg (cellsT rowsL)) (.int .i64 k)).run Tryd.prog v = .ok (.agg #[.int .u16 m, .int .u16 mt, .int .u16 s, .int .u32 b, .int .u8 nm, .int .u8 i, .int .u8 f]) v := hix
      clear hix
      go_wp2_with fail
      have a0 : (wr.alloc (Obj.cells #[.int .u16 m, .int .u16 mt, .int .u16 s, .int .u32 b, .int .u8 nm, .int .u8 i, .int .u8 f] 34)).cell? ⟨wr.heap.size, 0, none⟩ = some (.int .u16 m) := by rw [World.cell?_alloc_at _ _ _ _ rfl]; rfl
      have a1 : (wr.alloc (Obj.cells #[.int .u16 m, .int .u16 mt, .int .u16 s, .int .u32 b, .int .u8 nm, .int .u8 i, .int .u8 f] 34)).cell? ⟨wr.heap.size, 1, none⟩ = some (.int .u16 mt) := by rw [World.cell?_alloc_at _ _ _ _ rfl]; rfl
      have a2 : (wr.alloc (Obj.cells #[.int .u16 m, .int .u16 mt, .int .u16 s, .int .u32 b, .int .u8 nm, .int .u8 i, .int .u8 f] 34)).cell? ⟨wr.heap.size, 2, none⟩ = some (.int .u16 s) := by rw [World.cell?_alloc_at _ _ _ _ rfl]; rfl
      have a3 : (wr.alloc (Obj.cells #[.int .u16 m, .int .u16 mt, .int .u16 s, .int .u32 b, .int .u8 nm, .int .u8 i, .int .u8 f] 34)).cell? ⟨wr.heap.size, 3, none⟩ = some (.int .u32 b) := by rw [World.cell?_alloc_at _ _ _ _ rfl]; rfl
      have a4 : (wr.alloc (Obj.cells #[.int .u16 m, .int .u16 mt, .int .u16 s, .int .u32 b, .int .u8 nm, .int .u8 i, .int .u8 f] 34)).cell? ⟨wr.heap.size, 4, none⟩ = some (.int .u8 nm) := by rw [World.cell?_alloc_at _ _ _ _ rfl]; rfl
      have a5 : (wr.alloc (Obj.cells #[.int .u16 m, .int .u16 mt, .int .u16 s, .int .u32 b, .int .u8 nm, .int .u8 i, .int .u8 f] 34)).cell? ⟨wr.heap.size, 5, none⟩ = some (.int .u8 i) := by rw [World.cell?_alloc_at _ _ _ _ rfl]; rfl
      have a6 : (wr.alloc (Obj.cells #[.int .u16 m, .int .u16 mt, .int .u16 s, .int .u32 b, .int .u8 nm, .int .u8 i, .int .u8 f] 34)).cell? ⟨wr.heap.size, 6, none⟩ = some (.int .u8 f) := by rw [World.cell?_alloc_at _ _ _ _ rfl]; rfl
      have K0 := cell_regrown a0; have K1 := cell_regrown a1; have K2 := cell_regrown a2; have K3 := cell_regrown a3; have K4 := cell_regrown a4; have K5 := cell_regrown a5; have K6 := cell_regrown a6
      have hbW : Below w.heap.size w (wr.alloc (Obj.cells #[.int .u16 m, .int .u16 mt, .int .u16 s, .int .u32 b, .int .u8 nm, .int .u8 i, .int .u8 f] 34)) := hbw.alloc hbw.size _
      have hTW := Lib.hid (tab_alloc hT.out hBr (Obj.cells #[.int .u16 m, .int .u16 mt, .int .u16 s, .int .u32 b, .int .u8 nm, .int .u8 i, .int .u8 f] 34))
      have q1 : ∀ dd os, Calls Tryd.prog 20 #[.slice (some ⟨B, 0, none⟩) 36 36, .agg #[.int .u16 m, .int .u16 mt, .int .u16 s, .int .u32 b, .int .u8 nm, .int .u8 i, .int .u8 f], .int .u32 x] (grow (redrawn (wr.alloc (Obj.cells #[.int .u16 m, .int .u16 mt, .int .u16 s, .int .u32 b, .int .u8 nm, .int .u8 i, .int .u8 f] 34)) dd) os) fun e w'' => e = .returned (.tuple #[.int .u16 a, .bool st]) ∧ ∃ p : Regrown, w'' = grow (redrawn (wr.alloc (Obj.cells #[.int .u16 m, .int .u16 mt, .int .u16 s, .int .u32 b, .int .u8 nm, .int .u8 i, .int .u8 f] 34)) p.d) p.os := fun dd os =>
        q_p (hat.out _ (g_below hG.out (below_step (below_regrown (wr.alloc (Obj.cells #[.int .u16 m, .int .u16 mt, .int .u16 s, .int .u32 b, .int .u8 nm, .int .u8 i, .int .u8 f] 34)) dd os) hbW hbW.size) hG.out.1) B (by have := (below_regrown (wr.alloc (Obj.cells #[.int .u16 m, .int .u16 mt, .int .u16 s, .int .u32 b, .int .u8 nm, .int .u8 i, .int .u8 f] 34)) dd os).size; rw [sz_alloc] at this; omega) (tab_below hTW.out (below_regrown (wr.alloc (Obj.cells #[.int .u16 m, .int .u16 mt, .int .u16 s, .int .u32 b, .int .u8 nm, .int .u8 i, .int .u8 f] 34)) dd os) (by rw [sz_alloc]; omega)) 36)
      refine wp_region_quiet_below (by kernel_rfl) (by kernel_rfl) ?_
      repeat (go_big_quiet_step (first | (go_at_call 20; exact q1 _ _)))
      refine wpQuiet_nil ?_
      intro _ hw'
      obtain ⟨⟨dq, osq⟩, hw''⟩ := hw'
      subst hw''
      have hb9 := below_regrown (wr.alloc (Obj.cells #[.int .u16 m, .int .u16 mt, .int .u16 s, .int .u32 b, .int .u8 nm, .int .u8 i, .int .u8 f] 34)) dq osq
      generalize grow (redrawn (wr.alloc (Obj.cells #[.int .u16 m, .int .u16 mt, .int .u16 s, .int .u32 b, .int .u8 nm, .int .u8 i, .int .u8 f] 34)) dq) osq = w9 at hb9 ⊢
      have hb9w : Below w.heap.size w w9 := below_step hb9 hbW hbW.size
      have hT9 := Lib.hid (tab_below hTW.out hb9 (by rw [sz_alloc]; omega))
      have hB9 : B < w9.heap.size := by have := hb9.size; rw [sz_alloc] at this; omega
      clear a0 a1 a2 a3 a4 a5 a6 K0 K1 K2 K3 K4 K5 K6 q1 hat hTW hix' hbW hb9 hT hbw hBr hN
      cases st with
      | false =>
        go_wp2_with fail
        go_roundw
        case rel => exact ⟨k + 1, n, bl, by omega, rfl, rfl, by go_num, HR.out, hT9, hB9, hb9w⟩
        case measure => simp [intOf]; omega
      | true =>
        cases bl with
        | false =>
          go_wp2_with fail
          go_roundw
          case rel => exact ⟨k + 1, a, true, by omega, rfl, rfl, by go_num, HR.out, hT9, hB9, hb9w⟩
          case measure => simp [intOf]; omega
        | true =>
          by_cases hl : a < n
          · have hl' : (a : Int) < (n : Int) := by omega
            have HR2 : Hid (shrF (rowsL.take (k + 1)) x = (a, true)) := by show _ = _; rw [HR.out]; simp [hl]
            clear HR hl
            go_wp2_with fail
            go_roundw
            case rel => exact ⟨k + 1, a, true, by omega, rfl, rfl, by go_num, HR2.out, hT9, hB9, hb9w⟩
            case measure => simp [intOf]; omega
          · have hl' : ¬ (a : Int) < (n : Int) := by omega
            have HR2 : Hid (shrF (rowsL.take (k + 1)) x = (n, true)) := by show _ = _; rw [HR.out]; simp [hl]
            clear HR hl
            go_wp2_with fail
            go_roundw
            case rel => exact ⟨k + 1, n, true, by omega, rfl, rfl, by go_num, HR2.out, hT9, hB9, hb9w⟩
            case measure => simp [intOf]; omega
    · obtain rfl : k = 36 := by omega
      have hlt' : ¬ (((36 : Nat) : Int) < 36) := by omega
      have HN : Hid (shrinkF x = (n, bl)) := hN.out
      go_wp2_with fail
      refine bodyPost_ret (v := .tuple #[.int .u16 n, .bool bl]) (by simp [results, Tryd.results12, go_sem] <;> (first | rfl | (repeat' (first | rfl | apply And.intro)))) rfl ⟨by rw [HN.out], hbw⟩
end Go.Proofs.YtcfeeookjgdkmaaDoor
