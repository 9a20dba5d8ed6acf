/- The contract of among. -/
import Derived.Test.YtlohpakcikkdmaaB7
namespace Go.Proofs.Ytlohpakcikkdmaa
open Go.ChangeShapes Go.WideShapes Go.ChangeAt Go.RowKit
set_option linter.unusedVariables false
set_option linter.unusedSimpArgs false
theorem set_at {w : World} {B o : Nat} {x y : Value} (h : w.cell? ⟨B, o, none⟩ = some x) : (w.setCell ⟨B, o, none⟩ y).cell? ⟨B, o, none⟩ = some y := World.cell?_setCell_same _ _ _ h
theorem set_off {w : World} {B o o' : Nat} {y : Value} (h : o ≠ o') : (w.setCell ⟨B, o, none⟩ y).cell? ⟨B, o', none⟩ = w.cell? ⟨B, o', none⟩ := World.cell?_setCell_other _ _ _ _ (by intro e; cases e; exact h rfl)
theorem four_cells {w : World} {B : Nat} {x0 x1 x2 x3 : Value} (y0 y1 y2 y3 : Value) (h0 : w.cell? ⟨B, 0, none⟩ = some x0) (h1 : w.cell? ⟨B, 1, none⟩ = some x1) (h2 : w.cell? ⟨B, 2, none⟩ = some x2) (h3 : w.cell? ⟨B, 3, none⟩ = some x3) :
    ((((w.setCell ⟨B, 0, none⟩ y0).setCell ⟨B, 1, none⟩ y1).setCell ⟨B, 2, none⟩ y2).setCell ⟨B, 3, none⟩ y3).cell? ⟨B, 0, none⟩ = some y0 ∧
    ((((w.setCell ⟨B, 0, none⟩ y0).setCell ⟨B, 1, none⟩ y1).setCell ⟨B, 2, none⟩ y2).setCell ⟨B, 3, none⟩ y3).cell? ⟨B, 1, none⟩ = some y1 ∧
    ((((w.setCell ⟨B, 0, none⟩ y0).setCell ⟨B, 1, none⟩ y1).setCell ⟨B, 2, none⟩ y2).setCell ⟨B, 3, none⟩ y3).cell? ⟨B, 2, none⟩ = some y2 ∧
    ((((w.setCell ⟨B, 0, none⟩ y0).setCell ⟨B, 1, none⟩ y1).setCell ⟨B, 2, none⟩ y2).setCell ⟨B, 3, none⟩ y3).cell? ⟨B, 3, none⟩ = some y3 := by
  refine ⟨?_, ?_, ?_, ?_⟩
  · rw [set_off (by decide), set_off (by decide), set_off (by decide), set_at h0]
  · rw [set_off (by decide), set_off (by decide), set_at (x := x1) (by rw [set_off (by decide)]; exact h1)]
  · rw [set_off (by decide), set_at (x := x2) (by rw [set_off (by decide), set_off (by decide)]; exact h2)]
  · rw [set_at (x := x3) (by rw [set_off (by decide), set_off (by decide), set_off (by decide)]; exact h3)]
set_option maxRecDepth 100000 in
set_option maxHeartbeats 2000000 in
theorem among_c (T : List Row) (hT : Hid (∀ r ∈ T, OkR r)) (n : Nat) (hn : Hid (T.length = n)) (hn2 : n < 1000) (b : Nat) (hb : Hid (b < 4294967296)) (w : World) (B : Nat) (hB : B < w.heap.size)
    (hC : Hid (∀ o, w.cell? ⟨B, o, none⟩ = (cellsT T)[o]?)) (cap : Nat) :
    Calls Try.prog 17 #[.slice (some ⟨B, 0, none⟩) n cap, .int .u32 b] w (fun e w' => e = .returned (amongV T b) ∧ Below w.heap.size w w') := by
  go_enter Try.func17, Try.ntmps17
  go_wp2_with fail
  go_loopw [10] (fun i wr => ∃ k : Nat, k ≤ n ∧ i = .int .i64 k ∧ Hid (NoneYet T b k) ∧ Hid (At4 wr w.heap.size 0 zeroR ∧ ∀ o, wr.frozen? ⟨w.heap.size, o, none⟩ = false) ∧ Below w.heap.size w wr ∧ w.heap.size < wr.heap.size) (fun i _ => n - (intOf i).toNat)
  case atStart =>
    refine ⟨0, by omega, rfl, fun r hr => by simp at hr, ⟨⟨?_, ?_, ?_, ?_⟩, ?_⟩, (by repeat (first | (with_reducible first | exact Below.refl _ _ | assumption | exact Nat.le_refl _ | refine Below.drew ?_ | refine Below.alloc ?_ ?_ _ | refine Below.setCell ?_ ?_ _ | refine le_alloc ?_ | refine le_set ?_ | refine le_drew ?_ | refine below_step (by assumption) ?_ ?_ | refine le_below (by assumption) ?_) | (dsimp only; omega))), by simp only [sz_alloc]; omega⟩
    all_goals go_simp
    all_goals rfl
  case round =>
    obtain ⟨k, hk, rfl, hN, hA, hbw, hz⟩ := hrel
    have A0 := hA.out.1.1
    have A1 := hA.out.1.2.1
    have A2 := hA.out.1.2.2.1
    have A3 := hA.out.1.2.2.2
    have AF := hA.out.2
    by_cases hlt : k < n
    · have hlt' : (k : Int) < (n : Int) := by omega
      obtain ⟨r, hr⟩ : ∃ r, T[k]? = some r := ⟨_, List.getElem?_eq_getElem (by rw [hn.out]; exact hlt)⟩
      have HR := Lib.hid hr
      have HO : Hid (OkR r) := hT.out r (List.mem_of_getElem? hr)
      obtain ⟨g0, g1, g2, g3⟩ := cellsT_get T k r hr
      clear hr
      obtain ⟨m, mt, kd, p⟩ := r
      have c0 : wr.cell? ⟨B, k * 4, none⟩ = some (.int .u32 m) := by rw [hbw.cell (p := ⟨B, k * 4, none⟩) hB, hC.out, Nat.mul_comm]; exact g0
      have c1 : wr.cell? ⟨B, k * 4 + 1, none⟩ = some (.int .u32 mt) := by rw [hbw.cell (p := ⟨B, k * 4 + 1, none⟩) hB, hC.out, Nat.mul_comm]; exact g1
      have c2 : wr.cell? ⟨B, k * 4 + 2, none⟩ = some (.int .u8 kd) := by rw [hbw.cell (p := ⟨B, k * 4 + 2, none⟩) hB, hC.out, Nat.mul_comm]; exact g2
      have c3 : wr.cell? ⟨B, k * 4 + 3, none⟩ = some (.int .u32 p) := by rw [hbw.cell (p := ⟨B, k * 4 + 3, none⟩) hB, hC.out, Nat.mul_comm]; exact g3
      have e1 : bits .and .u32 (b : Int) (m : Int) = ((b &&& m : Nat) : Int) := u32_and_nat b m hb.out HO.out.1
      clear g0 g1 g2 g3
      have hp : Hid (p < 4294967296) := HO.out.2.2.2.1
      by_cases hm : b &&& m = mt
      · have e0 : (bits .and .u32 (b : Int) (m : Int) == (mt : Int)) = true := by rw [e1, hm]; simp
        clear e1
        cases hv : roundsV p b with
        | false =>
          have HH : Hid (holdsR ⟨m, mt, kd, p⟩ b = false) := by show _ = _; unfold holdsR; unfold roundsV at hv; rw [hv]; simp
          have HV := Lib.hid hv
          clear hv hm
          go_wp2_with fail
          refine (rounds_c m mt kd p b hp hb _).mono ?_; rintro e w9 ⟨rfl, hb9⟩
          rw [HV.out]
          obtain ⟨hc9, hf9⟩ := bcell hb9; have hz9 := hb9.size; (try simp only [sz_alloc, sz_drew, sz_set] at hz9 hc9 hf9); have l9_0 : w.heap.size < w9.heap.size := (by omega); have n9_0 : ¬ w.heap.size = w9.heap.size := (by omega); have m9_0 : ¬ w9.heap.size = w.heap.size := (by omega); have k9_0 := fun o => hc9 (w.heap.size) o (by omega); have f9_0 := fun o => hf9 (w.heap.size) o (by omega); (try simp (disch := (first | rfl | omega | (simp only [sz_alloc, sz_drew, sz_set]; omega))) only [sz_alloc, sz_drew, sz_set, World.cell?_drew, World.frozen?_drew, World.cell?_alloc_at, World.cell?_alloc_past, World.frozen?_alloc_at, World.frozen?_alloc_past] at k9_0 f9_0)
          clear hc9 hf9
          go_wp2_with fail
          go_roundw
          case rel =>
            refine ⟨k + 1, by omega, by go_num, none_step hN.out HR.out HH.out, ⟨⟨?_, ?_, ?_, ?_⟩, ?_⟩, (by repeat (first | (with_reducible first | exact Below.refl _ _ | assumption | exact Nat.le_refl _ | refine Below.drew ?_ | refine Below.alloc ?_ ?_ _ | refine Below.setCell ?_ ?_ _ | refine le_alloc ?_ | refine le_set ?_ | refine le_drew ?_ | refine below_step (by assumption) ?_ ?_ | refine le_below (by assumption) ?_) | (dsimp only; omega))), by omega⟩
            · rw [k9_0]; go_simp
            · rw [k9_0]; go_simp
            · rw [k9_0]; go_simp
            · rw [k9_0]; go_simp
            · intro o; rw [f9_0]; go_simp
          case measure => simp [intOf]; omega
        | true =>
          have HH : Hid (holdsR ⟨m, mt, kd, p⟩ b = true) := by show _ = _; unfold holdsR; unfold roundsV at hv; rw [hv, hm]; simp
          have HA := Lib.hid (found_at hN.out HR.out HH.out)
          have HV := Lib.hid hv
          clear hv hm
          go_wp2_with fail
          refine (rounds_c m mt kd p b hp hb _).mono ?_; rintro e w9 ⟨rfl, hb9⟩
          rw [HV.out]
          obtain ⟨hc9, hf9⟩ := bcell hb9; have hz9 := hb9.size; (try simp only [sz_alloc, sz_drew, sz_set] at hz9 hc9 hf9); have l9_0 : w.heap.size < w9.heap.size := (by omega); have n9_0 : ¬ w.heap.size = w9.heap.size := (by omega); have m9_0 : ¬ w9.heap.size = w.heap.size := (by omega); have k9_0 := fun o => hc9 (w.heap.size) o (by omega); have f9_0 := fun o => hf9 (w.heap.size) o (by omega); (try simp (disch := (first | rfl | omega | (simp only [sz_alloc, sz_drew, sz_set]; omega))) only [sz_alloc, sz_drew, sz_set, World.cell?_drew, World.frozen?_drew, World.cell?_alloc_at, World.cell?_alloc_past, World.frozen?_alloc_at, World.frozen?_alloc_past] at k9_0 f9_0); have l9_1 : wr.heap.size < w9.heap.size := (by omega); have n9_1 : ¬ wr.heap.size = w9.heap.size := (by omega); have m9_1 : ¬ w9.heap.size = wr.heap.size := (by omega); have k9_1 := fun o => hc9 (wr.heap.size) o (by omega); have f9_1 := fun o => hf9 (wr.heap.size) o (by omega); (try simp (disch := (first | rfl | omega | (simp only [sz_alloc, sz_drew, sz_set]; omega))) only [sz_alloc, sz_drew, sz_set, World.cell?_drew, World.frozen?_drew, World.cell?_alloc_at, World.cell?_alloc_past, World.frozen?_alloc_at, World.frozen?_alloc_past] at k9_1 f9_1)
          clear hc9 hf9
          go_wp2_with fail
          obtain ⟨z0, z1, z2, z3⟩ := four_cells (w := w9) (B := w.heap.size) (.int .u32 m) (.int .u32 mt) (.int .u8 kd) (.int .u32 p) ((k9_0 0).trans A0) ((k9_0 1).trans A1) ((k9_0 2).trans A2) ((k9_0 3).trans A3)
          refine bodyPost_ret (v := .tuple #[.agg #[.int .u32 m, .int .u32 mt, .int .u8 kd, .int .u32 p], .bool true]) (by simp [results, Try.results17, go_sem, z0, z1, z2, z3] <;> (first | rfl | (repeat' (first | rfl | apply And.intro)))) rfl ⟨by rw [HA.out]; rfl, (by repeat (first | (with_reducible first | exact Below.refl _ _ | assumption | exact Nat.le_refl _ | refine Below.drew ?_ | refine Below.alloc ?_ ?_ _ | refine Below.setCell ?_ ?_ _ | refine le_alloc ?_ | refine le_set ?_ | refine le_drew ?_ | refine below_step (by assumption) ?_ ?_ | refine le_below (by assumption) ?_) | (dsimp only; omega)))⟩
      · have e0 : (bits .and .u32 (b : Int) (m : Int) == (mt : Int)) = false := by
          rw [e1, beq_eq_false_iff_ne]; intro h; exact hm (by exact_mod_cast h)
        have HH : Hid (holdsR ⟨m, mt, kd, p⟩ b = false) := by show _ = _; unfold holdsR; simp [hm]
        clear e1 hm
        go_wp2_with fail
        go_roundw
        case rel =>
          refine ⟨k + 1, by omega, by go_num, none_step hN.out HR.out HH.out, ⟨⟨?_, ?_, ?_, ?_⟩, ?_⟩, (by repeat (first | (with_reducible first | exact Below.refl _ _ | assumption | exact Nat.le_refl _ | refine Below.drew ?_ | refine Below.alloc ?_ ?_ _ | refine Below.setCell ?_ ?_ _ | refine le_alloc ?_ | refine le_set ?_ | refine le_drew ?_ | refine below_step (by assumption) ?_ ?_ | refine le_below (by assumption) ?_) | (dsimp only; omega))), by simp only [sz_alloc]; omega⟩
          all_goals go_simp
        case measure => simp [intOf]; omega
    · obtain rfl : k = n := by omega
      have HA := Lib.hid (none_all (T := T) (b := b) (by rw [hn.out]; exact hN.out))
      have hlt' : ¬ ((k : Int) < (k : Int)) := by omega
      go_wp2_with fail
      obtain ⟨z0, z1, z2, z3⟩ := four_cells (w := wr) (B := w.heap.size) (.int .u32 0) (.int .u32 0) (.int .u8 0) (.int .u32 0) A0 A1 A2 A3
      refine bodyPost_ret (v := .tuple #[.agg #[.int .u32 0, .int .u32 0, .int .u8 0, .int .u32 0], .bool false]) (by simp [results, Try.results17, go_sem, z0, z1, z2, z3] <;> (first | rfl | (repeat' (first | rfl | apply And.intro)))) rfl ⟨by rw [HA.out]; rfl, (by repeat (first | (with_reducible first | exact Below.refl _ _ | assumption | exact Nat.le_refl _ | refine Below.drew ?_ | refine Below.alloc ?_ ?_ _ | refine Below.setCell ?_ ?_ _ | refine le_alloc ?_ | refine le_set ?_ | refine le_drew ?_ | refine below_step (by assumption) ?_ ?_ | refine le_below (by assumption) ?_) | (dsimp only; omega)))⟩
end Go.Proofs.Ytlohpakcikkdmaa
