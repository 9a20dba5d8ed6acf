/- The contract of expand: the first row that holds the half. -/
import Derived.Test.YtcfeeookjgdkmaaDoorB8
import Derived.LoopTactic
namespace Go.Proofs.YtcfeeookjgdkmaaDoor
open Go.ChangeShapes Go.WideShapes Go.ChangeAt Go.RowKit
set_option linter.unusedVariables false
set_option linter.unusedSimpArgs false
theorem cellsT_get (T : List SRow) (k : Nat) (r : SRow) (h : T[k]? = some r) : (cellsT T)[7 * k]? = some (.int .u16 r.mask) ∧ (cellsT T)[7 * k + 1]? = some (.int .u16 r.mat) ∧ (cellsT T)[7 * k + 2]? = some (.int .u16 r.some) ∧ (cellsT T)[7 * k + 3]? = some (.int .u32 r.base) ∧ (cellsT T)[7 * k + 4]? = some (.int .u8 r.names) ∧ (cellsT T)[7 * k + 5]? = some (.int .u8 r.imm) ∧ (cellsT T)[7 * k + 6]? = some (.int .u8 r.form) := by
  unfold cellsT
  simp only [List.getElem?_toArray]
  induction T generalizing k with
  | nil => simp at h
  | cons a T ih =>
    cases k with
    | zero => simp at h; subst h; exact ⟨rfl, rfl, rfl, rfl, rfl, rfl, rfl⟩
    | succ k =>
      have := ih k (by simpa using h)
      obtain ⟨t0, t1, t2, t3, t4, t5, t6⟩ := this
      simp only [List.flatMap_cons]
      have hl : (cellsS a).toList.length = 7 := rfl
      refine ⟨?_, ?_, ?_, ?_, ?_, ?_, ?_⟩

      · rw [List.getElem?_append_right (by omega), hl, show 7 * (k + 1) - 7 = 7 * k by omega]; exact t0
      · rw [List.getElem?_append_right (by omega), hl, show 7 * (k + 1) + 1 - 7 = 7 * k + 1 by omega]; exact t1
      · rw [List.getElem?_append_right (by omega), hl, show 7 * (k + 1) + 2 - 7 = 7 * k + 2 by omega]; exact t2
      · rw [List.getElem?_append_right (by omega), hl, show 7 * (k + 1) + 3 - 7 = 7 * k + 3 by omega]; exact t3
      · rw [List.getElem?_append_right (by omega), hl, show 7 * (k + 1) + 4 - 7 = 7 * k + 4 by omega]; exact t4
      · rw [List.getElem?_append_right (by omega), hl, show 7 * (k + 1) + 5 - 7 = 7 * k + 5 by omega]; exact t5
      · rw [List.getElem?_append_right (by omega), hl, show 7 * (k + 1) + 6 - 7 = 7 * k + 6 by omega]; exact t6
def NoneYet (T : List SRow) (h k : Nat) : Prop := ∀ r ∈ T.take k, holdsB r h = false
theorem none_step {T : List SRow} {b k : Nat} {r : SRow} (h : NoneYet T b k) (hr : T[k]? = some r) (hh : holdsB r b = false) : NoneYet T b (k + 1) := by
  intro q hq
  rw [List.take_add_one, hr] at hq
  simp only [Option.toList_some, List.mem_append, List.mem_singleton] at hq
  rcases hq with hq | rfl
  · exact h q hq
  · exact hh
theorem none_all {b : Nat} (h : NoneYet rowsL b 36) : expandF b = (0, false) := by
  have : rowsL.find? (fun r => holdsB r b) = none := by
    rw [List.find?_eq_none]; intro r hr; rw [h r (by rw [show rowsL.take 36 = rowsL from rfl]; exact hr)]; decide
  unfold expandF; rw [this]
theorem found_at {b k : Nat} {r : SRow} (h : NoneYet rowsL b k) (hr : rowsL[k]? = some r) (hh : holdsB r b = true) : expandF b = (writeF r b, true) := by
  have : rowsL.find? (fun r => holdsB r b) = some r := by
    obtain ⟨hk, hk'⟩ := List.getElem?_eq_some_iff.1 hr
    rw [← List.take_append_drop k rowsL, List.find?_append, List.find?_eq_none.2 (fun r hr => by rw [h r hr]; decide), List.drop_eq_getElem_cons hk, List.find?_cons_of_pos (by rw [hk']; exact hh), hk']; rfl
  unfold expandF; rw [this]
set_option maxRecDepth 100000 in
set_option maxHeartbeats 2000000 in
theorem expand_c (h : Nat) (hh : Hid (h < 65536)) (w : World) (hG : Hid (G w)) (B : Nat) (hB : B < w.heap.size)
    (hC : Hid (∀ o, w.cell? ⟨B, o, none⟩ = (cellsT rowsL)[o]?)) (cap : Nat) :
    Calls Tryd.prog 15 #[.slice (some ⟨B, 0, none⟩) 36 cap, .int .u16 h] w (RetP (expandF h).1 (expandF h).2 w) := by
  go_enter Tryd.func15, Tryd.ntmps15
  go_wp2_with fail
  go_loopw [10] (fun i wr => ∃ k : Nat, k ≤ 36 ∧ i = .int .i64 k ∧ Hid (NoneYet rowsL h k) ∧ Below w.heap.size w wr) (fun i _ => 36 - (intOf i).toNat)
  case atStart =>
    exact ⟨0, by omega, rfl, fun r hr => by simp at hr, (by repeat (first | (with_reducible first | exact Below.refl _ _ | assumption | exact Nat.le_refl _ | refine Below.drew ?_ | refine Below.alloc ?_ ?_ _ | refine Below.setCell ?_ ?_ _ | refine le_alloc ?_ | refine le_set ?_ | refine le_drew ?_ | refine below_step (by assumption) ?_ ?_ | refine le_below (by assumption) ?_) | (dsimp only; omega)))⟩
  case round =>
    obtain ⟨k, hk, rfl, hN, hbw⟩ := hrel
    by_cases hlt : k < 36
    · have hlt' : (k : Int) < 36 := by omega
      obtain ⟨r, hr⟩ : ∃ r, rowsL[k]? = some r := ⟨_, List.getElem?_eq_getElem (show k < rowsL.length from hlt)⟩
      have HR := Lib.hid hr
      have HO : Hid (OkS r) := ok_rows r (List.mem_of_getElem? hr)
      obtain ⟨g0, g1, g2, g3, g4, g5, g6⟩ := cellsT_get rowsL k r hr
      clear hr
      obtain ⟨m, mt, s, b, nm, i, f⟩ := r
      have c0 : wr.cell? ⟨B, k * 7, none⟩ = some (.int .u16 m) := by rw [hbw.cell (p := ⟨B, k * 7, none⟩) hB, hC.out, Nat.mul_comm]; exact g0
      have c1 : wr.cell? ⟨B, k * 7 + 1, none⟩ = some (.int .u16 mt) := by rw [hbw.cell (p := ⟨B, k * 7 + 1, none⟩) hB, hC.out, Nat.mul_comm]; exact g1
      have c2 : wr.cell? ⟨B, k * 7 + 2, none⟩ = some (.int .u16 s) := by rw [hbw.cell (p := ⟨B, k * 7 + 2, none⟩) hB, hC.out, Nat.mul_comm]; exact g2
      have c3 : wr.cell? ⟨B, k * 7 + 3, none⟩ = some (.int .u32 b) := by rw [hbw.cell (p := ⟨B, k * 7 + 3, none⟩) hB, hC.out, Nat.mul_comm]; exact g3
      have c4 : wr.cell? ⟨B, k * 7 + 4, none⟩ = some (.int .u8 nm) := by rw [hbw.cell (p := ⟨B, k * 7 + 4, none⟩) hB, hC.out, Nat.mul_comm]; exact g4
      have c5 : wr.cell? ⟨B, k * 7 + 5, none⟩ = some (.int .u8 i) := by rw [hbw.cell (p := ⟨B, k * 7 + 5, none⟩) hB, hC.out, Nat.mul_comm]; exact g5
      have c6 : wr.cell? ⟨B, k * 7 + 6, none⟩ = some (.int .u8 f) := by rw [hbw.cell (p := ⟨B, k * 7 + 6, none⟩) hB, hC.out, Nat.mul_comm]; exact g6
      clear g0 g1 g2 g3 g4 g5 g6
      have hGr := Lib.hid (g_below hG.out hbw hG.out.1)
      go_wp2_with fail
      refine (holds_c ⟨m, mt, s, b, nm, i, f⟩ HO h hh _).mono ?_; rintro e w9 ⟨rfl, hb9⟩
      obtain ⟨hc9, hf9⟩ := bcell hb9; have hz9 := hb9.size; (try simp only [sz_alloc, sz_drew, sz_set] at hz9 hc9 hf9); have l9_0 : wr.heap.size < w9.heap.size := (by omega); have n9_0 : ¬ wr.heap.size = w9.heap.size := (by omega); have m9_0 : ¬ w9.heap.size = wr.heap.size := (by omega); have k9_0 := fun o => hc9 (wr.heap.size) o (by omega); have f9_0 := fun o => hf9 (wr.heap.size) o (by omega); (try simp (disch := (first | rfl | omega | (simp only [sz_alloc, sz_drew, sz_set]; omega))) only [sz_alloc, sz_drew, sz_set, World.cell?_drew, World.frozen?_drew, World.cell?_alloc_at, World.cell?_alloc_past, World.frozen?_alloc_at, World.frozen?_alloc_past] at k9_0 f9_0)
      clear hc9 hf9
      have hb9w : Below w.heap.size w w9 := below_step hb9 (hbw.alloc hbw.size _) (by rw [sz_alloc]; have := hbw.size; omega)
      have hG9 := Lib.hid (g_below hG.out hb9w hG.out.1)
      cases hv : holdsB ⟨m, mt, s, b, nm, i, f⟩ h with
      | false =>
        have HV := Lib.hid hv
        clear hv
        go_wp2_with fail
        go_roundw
        case rel => exact ⟨k + 1, by omega, by go_num, none_step hN.out HR.out HV.out, hb9w⟩
        case measure => simp [intOf]; omega
      | true =>
        have HA := Lib.hid (found_at hN.out HR.out hv)
        clear hv
        go_wp2_with fail
        refine (write_c ⟨m, mt, s, b, nm, i, f⟩ HO h hh _ hG9).mono ?_; rintro e w8 ⟨rfl, hb8⟩
        go_wp2_with fail
        refine bodyPost_ret (v := .tuple #[.int .u32 (writeF ⟨m, mt, s, b, nm, i, f⟩ h : Nat), .bool true]) (by simp [results, Tryd.results15, go_sem] <;> (first | rfl | (repeat' (first | rfl | apply And.intro)))) rfl ⟨by rw [HA.out], (by repeat (first | (with_reducible first | exact Below.refl _ _ | assumption | exact Nat.le_refl _ | refine Below.drew ?_ | refine Below.alloc ?_ ?_ _ | refine Below.setCell ?_ ?_ _ | refine le_alloc ?_ | refine le_set ?_ | refine le_drew ?_ | refine below_step (by assumption) ?_ ?_ | refine le_below (by assumption) ?_) | (dsimp only; omega)))⟩
    · obtain rfl : k = 36 := by omega
      have HA := Lib.hid (none_all hN.out)
      have hlt' : ¬ (((36 : Nat) : Int) < 36) := by omega
      go_wp2_with fail
      refine bodyPost_ret (v := .tuple #[.int .u32 0, .bool false]) (by simp [results, Tryd.results15, go_sem] <;> (first | rfl | (repeat' (first | rfl | apply And.intro)))) rfl ⟨by rw [HA.out]; rfl, (by repeat (first | (with_reducible first | exact Below.refl _ _ | assumption | exact Nat.le_refl _ | refine Below.drew ?_ | refine Below.alloc ?_ ?_ _ | refine Below.setCell ?_ ?_ _ | refine le_alloc ?_ | refine le_set ?_ | refine le_drew ?_ | refine below_step (by assumption) ?_ ?_ | refine le_below (by assumption) ?_) | (dsimp only; omega)))⟩
end Go.Proofs.YtcfeeookjgdkmaaDoor
