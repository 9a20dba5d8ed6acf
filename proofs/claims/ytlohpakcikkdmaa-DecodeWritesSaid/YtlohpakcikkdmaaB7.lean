/- The contracts of rounds and among. -/
import Derived.Test.YtlohpakcikkdmaaB6
import Derived.LoopTactic
namespace Go.Proofs.Ytlohpakcikkdmaa
open Go.ChangeShapes Go.WideShapes Go.ChangeAt Go.RowKit
set_option linter.unusedVariables false
set_option linter.unusedSimpArgs false
def roundsV (p b : Nat) : Bool := !(has p 16) || decide (fld b 12 3 ≤ 4) || decide (fld b 12 3 = 7)
theorem fld3 (b f : Nat) : fld b f 3 = 0 ∨ fld b f 3 = 1 ∨ fld b f 3 = 2 ∨ fld b f 3 = 3 ∨ fld b f 3 = 4 ∨ fld b f 3 = 5 ∨ fld b f 3 = 6 ∨ fld b f 3 = 7 := by have := fld_lt b f 3; omega
theorem rounds_c (m mt k p b : Nat) (hp : Hid (p < 4294967296)) (hb : Hid (b < 4294967296)) (w : World) :
    Calls Try.prog 23 #[.agg #[.int .u32 m, .int .u32 mt, .int .u8 k, .int .u32 p], .int .u32 b] w (RetB (roundsV p b) w) := by
  have hhas := u32_has p 16 hp (by decide)
  cases hh : has p 16 with
  | false =>
    have HV : Hid (roundsV p b = true) := by show _ = _; unfold roundsV; rw [hh]; rfl
    have e0 : (bits .and .u32 (p : Int) 16 == 0) = true := by rw [hh] at hhas; simpa [bne] using hhas
    clear hhas hh
    go_enter Try.func23, Try.ntmps23
    go_wp2_with fail
    refine (field_12_3 b hb _).mono ?_; rintro e w1 ⟨rfl, hb1⟩; obtain ⟨hc1, hf1⟩ := bcell hb1; have hz1 := hb1.size; (try simp only [sz_alloc, sz_drew, sz_set] at hz1 hc1 hf1); have l1_0 : w.heap.size < w1.heap.size := (by omega); have n1_0 : ¬ w.heap.size = w1.heap.size := (by omega); have m1_0 : ¬ w1.heap.size = w.heap.size := (by omega); have k1_0 := fun o => hc1 (w.heap.size) o (by omega); have f1_0 := fun o => hf1 (w.heap.size) o (by omega); (try simp (disch := (first | rfl | omega | (simp only [sz_alloc, sz_drew, sz_set]; omega))) only [sz_alloc, sz_drew, sz_set, World.cell?_drew, World.frozen?_drew, World.cell?_alloc_at, World.cell?_alloc_past, World.frozen?_alloc_at, World.frozen?_alloc_past] at k1_0 f1_0)
    go_wp2
    go_ret
    exact retB_mk (by rw [HV.out]) (by repeat (first | (with_reducible first | exact Below.refl _ _ | assumption | exact Nat.le_refl _ | refine Below.drew ?_ | refine Below.alloc ?_ ?_ _ | refine Below.setCell ?_ ?_ _ | refine le_alloc ?_ | refine le_set ?_ | refine le_drew ?_ | refine below_step (by assumption) ?_ ?_ | refine le_below (by assumption) ?_) | (dsimp only; omega)))
  | true =>
    have e0 : (bits .and .u32 (p : Int) 16 == 0) = false := by rw [hh] at hhas; simpa [bne] using hhas
    clear hhas
    rcases fld3 b 12 with hn | hn | hn | hn | hn | hn | hn | hn
    all_goals
      have HV := Lib.hid (rfl : roundsV p b = roundsV p b)
      unfold roundsV at HV
      have HW : Hid (roundsV p b = (!true || decide (fld b 12 3 ≤ 4) || decide (fld b 12 3 = 7))) := by show _ = _; unfold roundsV; rw [hh]
      rw [hn] at HW
      clear hh HV
      have HN := Lib.hid hn
      clear hn
      go_enter Try.func23, Try.ntmps23
      go_wp2_with fail
      refine (field_12_3 b hb _).mono ?_; rintro e w1 ⟨rfl, hb1⟩; obtain ⟨hc1, hf1⟩ := bcell hb1; have hz1 := hb1.size; (try simp only [sz_alloc, sz_drew, sz_set] at hz1 hc1 hf1); have l1_0 : w.heap.size < w1.heap.size := (by omega); have n1_0 : ¬ w.heap.size = w1.heap.size := (by omega); have m1_0 : ¬ w1.heap.size = w.heap.size := (by omega); have k1_0 := fun o => hc1 (w.heap.size) o (by omega); have f1_0 := fun o => hf1 (w.heap.size) o (by omega); (try simp (disch := (first | rfl | omega | (simp only [sz_alloc, sz_drew, sz_set]; omega))) only [sz_alloc, sz_drew, sz_set, World.cell?_drew, World.frozen?_drew, World.cell?_alloc_at, World.cell?_alloc_past, World.frozen?_alloc_at, World.frozen?_alloc_past] at k1_0 f1_0)
      rw [HN.out]
      go_wp2
      go_ret
      exact retB_mk (by rw [HW.out]; rfl) (by repeat (first | (with_reducible first | exact Below.refl _ _ | assumption | exact Nat.le_refl _ | refine Below.drew ?_ | refine Below.alloc ?_ ?_ _ | refine Below.setCell ?_ ?_ _ | refine le_alloc ?_ | refine le_set ?_ | refine le_drew ?_ | refine below_step (by assumption) ?_ ?_ | refine le_below (by assumption) ?_) | (dsimp only; omega)))
def zeroR : Row := ⟨0, 0, 0, 0⟩
def amongV (T : List Row) (b : Nat) : Value := match T.find? (fun r => holdsR r b) with | some r => .tuple #[.agg (cellsR r), .bool true] | none => .tuple #[.agg (cellsR zeroR), .bool false]
def At4 (w : World) (B : Nat) (o : Nat) (r : Row) : Prop := w.cell? ⟨B, o, none⟩ = some (.int .u32 r.mask) ∧ w.cell? ⟨B, o + 1, none⟩ = some (.int .u32 r.mat) ∧ w.cell? ⟨B, o + 2, none⟩ = some (.int .u8 r.kind) ∧ w.cell? ⟨B, o + 3, none⟩ = some (.int .u32 r.parts)
theorem cellsT_get (T : List Row) (k : Nat) (r : Row) (h : T[k]? = some r) : (cellsT T)[4 * k]? = some (.int .u32 r.mask) ∧ (cellsT T)[4 * k + 1]? = some (.int .u32 r.mat) ∧ (cellsT T)[4 * k + 2]? = some (.int .u8 r.kind) ∧ (cellsT T)[4 * k + 3]? = some (.int .u32 r.parts) := by
  unfold cellsT
  simp only [List.getElem?_toArray]
  induction T generalizing k with
  | nil => simp at h
  | cons a T ih =>
    cases k with
    | zero => simp at h; subst h; exact ⟨rfl, rfl, rfl, rfl⟩
    | succ k =>
      have := ih k (by simpa using h)
      simp only [List.flatMap_cons]
      have hl : (cellsR a).toList.length = 4 := rfl
      refine ⟨?_, ?_, ?_, ?_⟩
      · rw [List.getElem?_append_right (by omega), hl, show 4 * (k + 1) - 4 = 4 * k by omega]; exact this.1
      · rw [List.getElem?_append_right (by omega), hl, show 4 * (k + 1) + 1 - 4 = 4 * k + 1 by omega]; exact this.2.1
      · rw [List.getElem?_append_right (by omega), hl, show 4 * (k + 1) + 2 - 4 = 4 * k + 2 by omega]; exact this.2.2.1
      · rw [List.getElem?_append_right (by omega), hl, show 4 * (k + 1) + 3 - 4 = 4 * k + 3 by omega]; exact this.2.2.2
def NoneYet (T : List Row) (b k : Nat) : Prop := ∀ r ∈ T.take k, holdsR r b = false
theorem none_step {T : List Row} {b k : Nat} {r : Row} (h : NoneYet T b k) (hr : T[k]? = some r) (hh : holdsR r b = false) : NoneYet T b (k + 1) := by
  intro q hq
  rw [List.take_add_one, hr] at hq
  simp only [Option.toList_some, List.mem_append, List.mem_singleton] at hq
  rcases hq with hq | rfl
  · exact h q hq
  · exact hh
theorem none_all {T : List Row} {b : Nat} (h : NoneYet T b T.length) : amongV T b = .tuple #[.agg (cellsR zeroR), .bool false] := by
  have : T.find? (fun r => holdsR r b) = none := by
    rw [List.find?_eq_none]; intro r hr; rw [h r (by simpa using hr)]; decide
  unfold amongV; rw [this]
theorem found_at {T : List Row} {b k : Nat} {r : Row} (h : NoneYet T b k) (hr : T[k]? = some r) (hh : holdsR r b = true) : amongV T b = .tuple #[.agg (cellsR r), .bool true] := by
  have : T.find? (fun r => holdsR r b) = some r := by
    obtain ⟨hk, hk'⟩ := List.getElem?_eq_some_iff.1 hr
    rw [← List.take_append_drop k T, List.find?_append, List.find?_eq_none.2 (fun r hr => by rw [h r hr]; decide), List.drop_eq_getElem_cons hk, List.find?_cons_of_pos (by rw [hk']; exact hh), hk']; rfl
  unfold amongV; rw [this]
end Go.Proofs.Ytlohpakcikkdmaa
