/- The contracts of readRegisters and readSizes: an instruction is filled in field by field. -/
import Derived.Test.YtlohpakcikkdmaaB2
namespace Go.Proofs.Ytlohpakcikkdmaa
open Go.ChangeShapes Go.WideShapes Go.ChangeAt Go.RowKit
set_option linter.unusedVariables false
set_option linter.unusedSimpArgs false
/-- At block B the instruction I stands. -/
def AtI (w : World) (B : Nat) (I : Ins) : Prop := (∀ o, w.cell? ⟨B, o, none⟩ = (cellsI I)[o]?) ∧ (∀ o, w.frozen? ⟨B, o, none⟩ = false)
theorem atI_below {B B' : Nat} {w w' : World} {I : Ins} (h : AtI w B I) (hb : Below B' w w') (hB : B < B') : AtI w' B I :=
  ⟨fun o => by rw [hb.cell (p := ⟨B, o, none⟩) hB]; exact h.1 o, fun o => by rw [hb.frozen (p := ⟨B, o, none⟩) hB]; exact h.2 o⟩
theorem atI_set {w : World} {B k : Nat} {I J : Ins} {v : Value} (h : AtI w B I) (hk : k < 12) (hv : (cellsI J)[k]? = some v) (ho : ∀ o, o ≠ k → (cellsI J)[o]? = (cellsI I)[o]?) : AtI (w.setCell ⟨B, k, none⟩ v) B J := by
  have hs : ∃ u, w.cell? ⟨B, k, none⟩ = some u := by
    rw [h.1 k]
    have : k < (cellsI I).size := hk
    exact ⟨_, Array.getElem?_eq_getElem this⟩
  obtain ⟨u, hu⟩ := hs
  refine ⟨fun o => ?_, fun o => by simp [h.2]⟩
  by_cases e : o = k
  · subst e; rw [World.cell?_setCell_same _ _ _ hu, hv]
  · rw [World.cell?_setCell_other _ _ _ _ (by intro h; cases h; exact e rfl), h.1 o, ho o e]
theorem set_kind {w : World} {B : Nat} {I : Ins} (v : Int) (h : AtI w B I) : AtI (w.setCell ⟨B, 0, none⟩ (.int .i64 v)) B { I with kind := v } := by
  refine atI_set h (by decide) rfl ?_
  intro o ho
  by_cases hl : o < 12
  · have : o = 0 ∨ o = 1 ∨ o = 2 ∨ o = 3 ∨ o = 4 ∨ o = 5 ∨ o = 6 ∨ o = 7 ∨ o = 8 ∨ o = 9 ∨ o = 10 ∨ o = 11 := by omega
    rcases this with rfl | rfl | rfl | rfl | rfl | rfl | rfl | rfl | rfl | rfl | rfl | rfl <;> first | rfl | exact absurd rfl ho
  · rw [Array.getElem?_eq_none (by show (12 : Nat) ≤ _; omega), Array.getElem?_eq_none (by show (12 : Nat) ≤ _; omega)] 
theorem set_rd {w : World} {B : Nat} {I : Ins} (v : Int) (h : AtI w B I) : AtI (w.setCell ⟨B, 1, none⟩ (.int .i64 v)) B { I with rd := v } := by
  refine atI_set h (by decide) rfl ?_
  intro o ho
  by_cases hl : o < 12
  · have : o = 0 ∨ o = 1 ∨ o = 2 ∨ o = 3 ∨ o = 4 ∨ o = 5 ∨ o = 6 ∨ o = 7 ∨ o = 8 ∨ o = 9 ∨ o = 10 ∨ o = 11 := by omega
    rcases this with rfl | rfl | rfl | rfl | rfl | rfl | rfl | rfl | rfl | rfl | rfl | rfl <;> first | rfl | exact absurd rfl ho
  · rw [Array.getElem?_eq_none (by show (12 : Nat) ≤ _; omega), Array.getElem?_eq_none (by show (12 : Nat) ≤ _; omega)] 
theorem set_rs1 {w : World} {B : Nat} {I : Ins} (v : Int) (h : AtI w B I) : AtI (w.setCell ⟨B, 2, none⟩ (.int .i64 v)) B { I with rs1 := v } := by
  refine atI_set h (by decide) rfl ?_
  intro o ho
  by_cases hl : o < 12
  · have : o = 0 ∨ o = 1 ∨ o = 2 ∨ o = 3 ∨ o = 4 ∨ o = 5 ∨ o = 6 ∨ o = 7 ∨ o = 8 ∨ o = 9 ∨ o = 10 ∨ o = 11 := by omega
    rcases this with rfl | rfl | rfl | rfl | rfl | rfl | rfl | rfl | rfl | rfl | rfl | rfl <;> first | rfl | exact absurd rfl ho
  · rw [Array.getElem?_eq_none (by show (12 : Nat) ≤ _; omega), Array.getElem?_eq_none (by show (12 : Nat) ≤ _; omega)] 
theorem set_rs2 {w : World} {B : Nat} {I : Ins} (v : Int) (h : AtI w B I) : AtI (w.setCell ⟨B, 3, none⟩ (.int .i64 v)) B { I with rs2 := v } := by
  refine atI_set h (by decide) rfl ?_
  intro o ho
  by_cases hl : o < 12
  · have : o = 0 ∨ o = 1 ∨ o = 2 ∨ o = 3 ∨ o = 4 ∨ o = 5 ∨ o = 6 ∨ o = 7 ∨ o = 8 ∨ o = 9 ∨ o = 10 ∨ o = 11 := by omega
    rcases this with rfl | rfl | rfl | rfl | rfl | rfl | rfl | rfl | rfl | rfl | rfl | rfl <;> first | rfl | exact absurd rfl ho
  · rw [Array.getElem?_eq_none (by show (12 : Nat) ≤ _; omega), Array.getElem?_eq_none (by show (12 : Nat) ≤ _; omega)] 
theorem set_rs3 {w : World} {B : Nat} {I : Ins} (v : Int) (h : AtI w B I) : AtI (w.setCell ⟨B, 4, none⟩ (.int .i64 v)) B { I with rs3 := v } := by
  refine atI_set h (by decide) rfl ?_
  intro o ho
  by_cases hl : o < 12
  · have : o = 0 ∨ o = 1 ∨ o = 2 ∨ o = 3 ∨ o = 4 ∨ o = 5 ∨ o = 6 ∨ o = 7 ∨ o = 8 ∨ o = 9 ∨ o = 10 ∨ o = 11 := by omega
    rcases this with rfl | rfl | rfl | rfl | rfl | rfl | rfl | rfl | rfl | rfl | rfl | rfl <;> first | rfl | exact absurd rfl ho
  · rw [Array.getElem?_eq_none (by show (12 : Nat) ≤ _; omega), Array.getElem?_eq_none (by show (12 : Nat) ≤ _; omega)] 
theorem set_rm {w : World} {B : Nat} {I : Ins} (v : Int) (h : AtI w B I) : AtI (w.setCell ⟨B, 5, none⟩ (.int .i64 v)) B { I with rm := v } := by
  refine atI_set h (by decide) rfl ?_
  intro o ho
  by_cases hl : o < 12
  · have : o = 0 ∨ o = 1 ∨ o = 2 ∨ o = 3 ∨ o = 4 ∨ o = 5 ∨ o = 6 ∨ o = 7 ∨ o = 8 ∨ o = 9 ∨ o = 10 ∨ o = 11 := by omega
    rcases this with rfl | rfl | rfl | rfl | rfl | rfl | rfl | rfl | rfl | rfl | rfl | rfl <;> first | rfl | exact absurd rfl ho
  · rw [Array.getElem?_eq_none (by show (12 : Nat) ≤ _; omega), Array.getElem?_eq_none (by show (12 : Nat) ≤ _; omega)] 
theorem set_csr {w : World} {B : Nat} {I : Ins} (v : Int) (h : AtI w B I) : AtI (w.setCell ⟨B, 6, none⟩ (.int .i64 v)) B { I with csr := v } := by
  refine atI_set h (by decide) rfl ?_
  intro o ho
  by_cases hl : o < 12
  · have : o = 0 ∨ o = 1 ∨ o = 2 ∨ o = 3 ∨ o = 4 ∨ o = 5 ∨ o = 6 ∨ o = 7 ∨ o = 8 ∨ o = 9 ∨ o = 10 ∨ o = 11 := by omega
    rcases this with rfl | rfl | rfl | rfl | rfl | rfl | rfl | rfl | rfl | rfl | rfl | rfl <;> first | rfl | exact absurd rfl ho
  · rw [Array.getElem?_eq_none (by show (12 : Nat) ≤ _; omega), Array.getElem?_eq_none (by show (12 : Nat) ≤ _; omega)] 
theorem set_size {w : World} {B : Nat} {I : Ins} (v : Int) (h : AtI w B I) : AtI (w.setCell ⟨B, 7, none⟩ (.int .i64 v)) B { I with size := v } := by
  refine atI_set h (by decide) rfl ?_
  intro o ho
  by_cases hl : o < 12
  · have : o = 0 ∨ o = 1 ∨ o = 2 ∨ o = 3 ∨ o = 4 ∨ o = 5 ∨ o = 6 ∨ o = 7 ∨ o = 8 ∨ o = 9 ∨ o = 10 ∨ o = 11 := by omega
    rcases this with rfl | rfl | rfl | rfl | rfl | rfl | rfl | rfl | rfl | rfl | rfl | rfl <;> first | rfl | exact absurd rfl ho
  · rw [Array.getElem?_eq_none (by show (12 : Nat) ≤ _; omega), Array.getElem?_eq_none (by show (12 : Nat) ≤ _; omega)] 
theorem set_imm {w : World} {B : Nat} {I : Ins} (v : Int) (h : AtI w B I) : AtI (w.setCell ⟨B, 8, none⟩ (.int .i64 v)) B { I with imm := v } := by
  refine atI_set h (by decide) rfl ?_
  intro o ho
  by_cases hl : o < 12
  · have : o = 0 ∨ o = 1 ∨ o = 2 ∨ o = 3 ∨ o = 4 ∨ o = 5 ∨ o = 6 ∨ o = 7 ∨ o = 8 ∨ o = 9 ∨ o = 10 ∨ o = 11 := by omega
    rcases this with rfl | rfl | rfl | rfl | rfl | rfl | rfl | rfl | rfl | rfl | rfl | rfl <;> first | rfl | exact absurd rfl ho
  · rw [Array.getElem?_eq_none (by show (12 : Nat) ≤ _; omega), Array.getElem?_eq_none (by show (12 : Nat) ≤ _; omega)] 
theorem set_ui {w : World} {B : Nat} {I : Ins} (v : Bool) (h : AtI w B I) : AtI (w.setCell ⟨B, 9, none⟩ (.bool v)) B { I with ui := v } := by
  refine atI_set h (by decide) rfl ?_
  intro o ho
  by_cases hl : o < 12
  · have : o = 0 ∨ o = 1 ∨ o = 2 ∨ o = 3 ∨ o = 4 ∨ o = 5 ∨ o = 6 ∨ o = 7 ∨ o = 8 ∨ o = 9 ∨ o = 10 ∨ o = 11 := by omega
    rcases this with rfl | rfl | rfl | rfl | rfl | rfl | rfl | rfl | rfl | rfl | rfl | rfl <;> first | rfl | exact absurd rfl ho
  · rw [Array.getElem?_eq_none (by show (12 : Nat) ≤ _; omega), Array.getElem?_eq_none (by show (12 : Nat) ≤ _; omega)] 
theorem set_un {w : World} {B : Nat} {I : Ins} (v : Bool) (h : AtI w B I) : AtI (w.setCell ⟨B, 10, none⟩ (.bool v)) B { I with un := v } := by
  refine atI_set h (by decide) rfl ?_
  intro o ho
  by_cases hl : o < 12
  · have : o = 0 ∨ o = 1 ∨ o = 2 ∨ o = 3 ∨ o = 4 ∨ o = 5 ∨ o = 6 ∨ o = 7 ∨ o = 8 ∨ o = 9 ∨ o = 10 ∨ o = 11 := by omega
    rcases this with rfl | rfl | rfl | rfl | rfl | rfl | rfl | rfl | rfl | rfl | rfl | rfl <;> first | rfl | exact absurd rfl ho
  · rw [Array.getElem?_eq_none (by show (12 : Nat) ≤ _; omega), Array.getElem?_eq_none (by show (12 : Nat) ≤ _; omega)] 
theorem set_wo {w : World} {B : Nat} {I : Ins} (v : Bool) (h : AtI w B I) : AtI (w.setCell ⟨B, 11, none⟩ (.bool v)) B { I with wo := v } := by
  refine atI_set h (by decide) rfl ?_
  intro o ho
  by_cases hl : o < 12
  · have : o = 0 ∨ o = 1 ∨ o = 2 ∨ o = 3 ∨ o = 4 ∨ o = 5 ∨ o = 6 ∨ o = 7 ∨ o = 8 ∨ o = 9 ∨ o = 10 ∨ o = 11 := by omega
    rcases this with rfl | rfl | rfl | rfl | rfl | rfl | rfl | rfl | rfl | rfl | rfl | rfl <;> first | rfl | exact absurd rfl ho
  · rw [Array.getElem?_eq_none (by show (12 : Nat) ≤ _; omega), Array.getElem?_eq_none (by show (12 : Nat) ≤ _; omega)] 
theorem u32_has (p k : Nat) (hp : Hid (p < 4294967296)) (hk : k < 4294967296) : (bits .and .u32 (p : Int) (k : Int) != 0) = has p k := by
  rw [u32_and_nat p k hp.out hk]; unfold has
  have : ∀ n : Nat, ((n : Int) != 0) = (n != 0) := fun n => by cases n <;> rfl
  exact this _
theorem shl_wide (a k n : Nat) (h : k * 2 ^ n < 9223372036854775808) : IntKind.i64.wrap ((k : Int) * 2 ^ n) = ((k * 2 ^ n : Nat) : Int) := by
  rw [show (k : Int) * 2 ^ n = ((k * 2 ^ n : Nat) : Int) by simp, IntWalk.i64_in _ (by omega)]

def st1 (p b : Nat) (I : Ins) : Ins := { I with rd := if has p 1 then (fld b 7 5 : Int) else I.rd }
theorem st1_t (p b : Nat) (I : Ins) (h : has p 1 = true) : st1 p b I = { I with rd := (fld b 7 5 : Int) } := by unfold st1; rw [h]; rfl
theorem st1_f (p b : Nat) (I : Ins) (h : has p 1 = false) : st1 p b I = I := by unfold st1; rw [h]; rfl
theorem wr_7_5 (b : Nat) : wrap64 (fld b 7 5 : Int) = (fld b 7 5 : Int) := IntWalk.wrap64_in _ (by have := fld_lt b 7 5; simp only [show (2 : Nat) ^ 5 = 32 by decide] at this; omega)
def st2 (p b : Nat) (I : Ins) : Ins := { I with rs1 := if has p 2 then (fld b 15 5 : Int) else I.rs1 }
theorem st2_t (p b : Nat) (I : Ins) (h : has p 2 = true) : st2 p b I = { I with rs1 := (fld b 15 5 : Int) } := by unfold st2; rw [h]; rfl
theorem st2_f (p b : Nat) (I : Ins) (h : has p 2 = false) : st2 p b I = I := by unfold st2; rw [h]; rfl
theorem wr_15_5 (b : Nat) : wrap64 (fld b 15 5 : Int) = (fld b 15 5 : Int) := IntWalk.wrap64_in _ (by have := fld_lt b 15 5; simp only [show (2 : Nat) ^ 5 = 32 by decide] at this; omega)
def st3 (p b : Nat) (I : Ins) : Ins := { I with rs2 := if has p 4 then (fld b 20 5 : Int) else I.rs2 }
theorem st3_t (p b : Nat) (I : Ins) (h : has p 4 = true) : st3 p b I = { I with rs2 := (fld b 20 5 : Int) } := by unfold st3; rw [h]; rfl
theorem st3_f (p b : Nat) (I : Ins) (h : has p 4 = false) : st3 p b I = I := by unfold st3; rw [h]; rfl
theorem wr_20_5 (b : Nat) : wrap64 (fld b 20 5 : Int) = (fld b 20 5 : Int) := IntWalk.wrap64_in _ (by have := fld_lt b 20 5; simp only [show (2 : Nat) ^ 5 = 32 by decide] at this; omega)
def st4 (p b : Nat) (I : Ins) : Ins := { I with rs3 := if has p 8 then (fld b 27 5 : Int) else I.rs3 }
theorem st4_t (p b : Nat) (I : Ins) (h : has p 8 = true) : st4 p b I = { I with rs3 := (fld b 27 5 : Int) } := by unfold st4; rw [h]; rfl
theorem st4_f (p b : Nat) (I : Ins) (h : has p 8 = false) : st4 p b I = I := by unfold st4; rw [h]; rfl
theorem wr_27_5 (b : Nat) : wrap64 (fld b 27 5 : Int) = (fld b 27 5 : Int) := IntWalk.wrap64_in _ (by have := fld_lt b 27 5; simp only [show (2 : Nat) ^ 5 = 32 by decide] at this; omega)
def st5 (p b : Nat) (I : Ins) : Ins := { I with rm := if has p 16 then (fld b 12 3 : Int) else I.rm }
theorem st5_t (p b : Nat) (I : Ins) (h : has p 16 = true) : st5 p b I = { I with rm := (fld b 12 3 : Int) } := by unfold st5; rw [h]; rfl
theorem st5_f (p b : Nat) (I : Ins) (h : has p 16 = false) : st5 p b I = I := by unfold st5; rw [h]; rfl
theorem wr_12_3 (b : Nat) : wrap64 (fld b 12 3 : Int) = (fld b 12 3 : Int) := IntWalk.wrap64_in _ (by have := fld_lt b 12 3; simp only [show (2 : Nat) ^ 3 = 8 by decide] at this; omega)
def st6 (p b : Nat) (I : Ins) : Ins := { I with csr := if has p 32 then (fld b 20 12 : Int) else I.csr }
theorem st6_t (p b : Nat) (I : Ins) (h : has p 32 = true) : st6 p b I = { I with csr := (fld b 20 12 : Int) } := by unfold st6; rw [h]; rfl
theorem st6_f (p b : Nat) (I : Ins) (h : has p 32 = false) : st6 p b I = I := by unfold st6; rw [h]; rfl
theorem wr_20_12 (b : Nat) : wrap64 (fld b 20 12 : Int) = (fld b 20 12 : Int) := IntWalk.wrap64_in _ (by have := fld_lt b 20 12; simp only [show (2 : Nat) ^ 12 = 4096 by decide] at this; omega)
theorem regs_c (p b : Nat) (hp : Hid (p < 4294967296)) (hb : Hid (b < 4294967296)) (I : Ins) (B : Nat) (w : World) (hB : B < w.heap.size) (hI : Hid (AtI w B I)) :
    Calls Try.prog 25 #[.pointer (some ⟨B, 0, none⟩), .int .u32 p, .int .u32 b] w (fun e w' => e = .returned (.tuple #[]) ∧ AtI w' B (st6 p b (st5 p b (st4 p b (st3 p b (st2 p b (st1 p b I)))))) ∧ Below B w w' ∧ B < w'.heap.size) := by
  go_enter Try.func25, Try.ntmps25
  have t0 : (bits .and .u32 (p : Int) 1 != 0) = has p 1 := u32_has p 1 hp (by decide)
  have t1 : (bits .and .u32 (p : Int) 2 != 0) = has p 2 := u32_has p 2 hp (by decide)
  have t2 : (bits .and .u32 (p : Int) 4 != 0) = has p 4 := u32_has p 4 hp (by decide)
  have t3 : (bits .and .u32 (p : Int) 8 != 0) = has p 8 := u32_has p 8 hp (by decide)
  have t4 : (bits .and .u32 (p : Int) 16 != 0) = has p 16 := u32_has p 16 hp (by decide)
  have t5 : (bits .and .u32 (p : Int) 32 != 0) = has p 32 := u32_has p 32 hp (by decide)
  go_upto_if 8 with fail
  go_cut [] (fun wx => AtI wx B (st1 p b I) ∧ Below B w wx ∧ B < wx.heap.size)
  case first =>
    clear t1 t2 t3 t4 t5
    have hcell : w.cell? ⟨B, 1, none⟩ = some (.int .i64 (I).rd) := hI.out.1 1
    have hfro : w.frozen? ⟨B, 1, none⟩ = false := hI.out.2 1
    have ew := wr_7_5 b
    go_wp2_with fail
    · have hh : has p 1 = true := by assumption
      have HE : Hid ((st1 p b I) = { I with rd := (fld b 7 5 : Int) }) := st1_t p b _ hh
      refine (field_7_5 b hb _).mono ?_; rintro e w9 ⟨rfl, hb9⟩
      have hcell9 : w9.cell? ⟨B, 1, none⟩ = some (.int .i64 (I).rd) := by rw [(bcell hb9).1 B 1 hB]; exact hcell
      have hfro9 : w9.frozen? ⟨B, 1, none⟩ = false := by rw [(bcell hb9).2 B 1 hB]; exact hfro
      have hz9 := hb9.size
      go_wp2_with fail
      go_meet
      
      refine ⟨?_, ?_, ?_⟩
      · rw [HE.out]; exact set_rd _ (atI_below hI.out hb9 hB)
      · exact Below.setCell (below_step hb9 (Below.refl _ _) (Nat.le_of_lt hB)) (Nat.le_refl B) _
      · rw [sz_set]; omega
    · have hh : has p 1 = false := by assumption
      go_meet
      
      have e : (st1 p b I) = I := st1_f p b _ hh
      refine ⟨?_, Below.refl _ _, hB⟩
      rw [e]; exact hI.out
  case rest =>
  obtain ⟨hI1', hbc1, hz1⟩ := hcut
  have hI1 : Hid (AtI wc B (st1 p b I)) := hI1'
  clear hI1'
  go_upto_if 17 with fail
  go_cut [] (fun wx => AtI wx B (st2 p b (st1 p b I)) ∧ Below B w wx ∧ B < wx.heap.size)
  case first =>
    clear t0 t2 t3 t4 t5
    have hcell : wc.cell? ⟨B, 2, none⟩ = some (.int .i64 ((st1 p b I)).rs1) := hI1.out.1 2
    have hfro : wc.frozen? ⟨B, 2, none⟩ = false := hI1.out.2 2
    have ew := wr_15_5 b
    go_wp2_with fail
    · have hh : has p 2 = true := by assumption
      have HE : Hid ((st2 p b (st1 p b I)) = { (st1 p b I) with rs1 := (fld b 15 5 : Int) }) := st2_t p b _ hh
      refine (field_15_5 b hb _).mono ?_; rintro e w9 ⟨rfl, hb9⟩
      have hcell9 : w9.cell? ⟨B, 2, none⟩ = some (.int .i64 ((st1 p b I)).rs1) := by rw [(bcell hb9).1 B 2 hz1]; exact hcell
      have hfro9 : w9.frozen? ⟨B, 2, none⟩ = false := by rw [(bcell hb9).2 B 2 hz1]; exact hfro
      have hz9 := hb9.size
      go_wp2_with fail
      go_meet
      
      refine ⟨?_, ?_, ?_⟩
      · rw [HE.out]; exact set_rs1 _ (atI_below hI1.out hb9 hz1)
      · exact Below.setCell (below_step hb9 hbc1 (Nat.le_of_lt hz1)) (Nat.le_refl B) _
      · rw [sz_set]; omega
    · have hh : has p 2 = false := by assumption
      go_meet
      
      have e : (st2 p b (st1 p b I)) = (st1 p b I) := st2_f p b _ hh
      refine ⟨?_, hbc1, hz1⟩
      rw [e]; exact hI1.out
  case rest =>
  obtain ⟨hI2', hbc2, hz2⟩ := hcut
  have hI2 : Hid (AtI wc B (st2 p b (st1 p b I))) := hI2'
  clear hI2'
  go_upto_if 26 with fail
  go_cut [] (fun wx => AtI wx B (st3 p b (st2 p b (st1 p b I))) ∧ Below B w wx ∧ B < wx.heap.size)
  case first =>
    clear t0 t1 t3 t4 t5
    have hcell : wc.cell? ⟨B, 3, none⟩ = some (.int .i64 ((st2 p b (st1 p b I))).rs2) := hI2.out.1 3
    have hfro : wc.frozen? ⟨B, 3, none⟩ = false := hI2.out.2 3
    have ew := wr_20_5 b
    go_wp2_with fail
    · have hh : has p 4 = true := by assumption
      have HE : Hid ((st3 p b (st2 p b (st1 p b I))) = { (st2 p b (st1 p b I)) with rs2 := (fld b 20 5 : Int) }) := st3_t p b _ hh
      refine (field_20_5 b hb _).mono ?_; rintro e w9 ⟨rfl, hb9⟩
      have hcell9 : w9.cell? ⟨B, 3, none⟩ = some (.int .i64 ((st2 p b (st1 p b I))).rs2) := by rw [(bcell hb9).1 B 3 hz2]; exact hcell
      have hfro9 : w9.frozen? ⟨B, 3, none⟩ = false := by rw [(bcell hb9).2 B 3 hz2]; exact hfro
      have hz9 := hb9.size
      go_wp2_with fail
      go_meet
      
      refine ⟨?_, ?_, ?_⟩
      · rw [HE.out]; exact set_rs2 _ (atI_below hI2.out hb9 hz2)
      · exact Below.setCell (below_step hb9 hbc2 (Nat.le_of_lt hz2)) (Nat.le_refl B) _
      · rw [sz_set]; omega
    · have hh : has p 4 = false := by assumption
      go_meet
      
      have e : (st3 p b (st2 p b (st1 p b I))) = (st2 p b (st1 p b I)) := st3_f p b _ hh
      refine ⟨?_, hbc2, hz2⟩
      rw [e]; exact hI2.out
  case rest =>
  obtain ⟨hI3', hbc3, hz3⟩ := hcut
  have hI3 : Hid (AtI wc B (st3 p b (st2 p b (st1 p b I)))) := hI3'
  clear hI3'
  go_upto_if 35 with fail
  go_cut [] (fun wx => AtI wx B (st4 p b (st3 p b (st2 p b (st1 p b I)))) ∧ Below B w wx ∧ B < wx.heap.size)
  case first =>
    clear t0 t1 t2 t4 t5
    have hcell : wc.cell? ⟨B, 4, none⟩ = some (.int .i64 ((st3 p b (st2 p b (st1 p b I)))).rs3) := hI3.out.1 4
    have hfro : wc.frozen? ⟨B, 4, none⟩ = false := hI3.out.2 4
    have ew := wr_27_5 b
    go_wp2_with fail
    · have hh : has p 8 = true := by assumption
      have HE : Hid ((st4 p b (st3 p b (st2 p b (st1 p b I)))) = { (st3 p b (st2 p b (st1 p b I))) with rs3 := (fld b 27 5 : Int) }) := st4_t p b _ hh
      refine (field_27_5 b hb _).mono ?_; rintro e w9 ⟨rfl, hb9⟩
      have hcell9 : w9.cell? ⟨B, 4, none⟩ = some (.int .i64 ((st3 p b (st2 p b (st1 p b I)))).rs3) := by rw [(bcell hb9).1 B 4 hz3]; exact hcell
      have hfro9 : w9.frozen? ⟨B, 4, none⟩ = false := by rw [(bcell hb9).2 B 4 hz3]; exact hfro
      have hz9 := hb9.size
      go_wp2_with fail
      go_meet
      
      refine ⟨?_, ?_, ?_⟩
      · rw [HE.out]; exact set_rs3 _ (atI_below hI3.out hb9 hz3)
      · exact Below.setCell (below_step hb9 hbc3 (Nat.le_of_lt hz3)) (Nat.le_refl B) _
      · rw [sz_set]; omega
    · have hh : has p 8 = false := by assumption
      go_meet
      
      have e : (st4 p b (st3 p b (st2 p b (st1 p b I)))) = (st3 p b (st2 p b (st1 p b I))) := st4_f p b _ hh
      refine ⟨?_, hbc3, hz3⟩
      rw [e]; exact hI3.out
  case rest =>
  obtain ⟨hI4', hbc4, hz4⟩ := hcut
  have hI4 : Hid (AtI wc B (st4 p b (st3 p b (st2 p b (st1 p b I))))) := hI4'
  clear hI4'
  go_upto_if 44 with fail
  go_cut [] (fun wx => AtI wx B (st5 p b (st4 p b (st3 p b (st2 p b (st1 p b I))))) ∧ Below B w wx ∧ B < wx.heap.size)
  case first =>
    clear t0 t1 t2 t3 t5
    have hcell : wc.cell? ⟨B, 5, none⟩ = some (.int .i64 ((st4 p b (st3 p b (st2 p b (st1 p b I))))).rm) := hI4.out.1 5
    have hfro : wc.frozen? ⟨B, 5, none⟩ = false := hI4.out.2 5
    have ew := wr_12_3 b
    go_wp2_with fail
    · have hh : has p 16 = true := by assumption
      have HE : Hid ((st5 p b (st4 p b (st3 p b (st2 p b (st1 p b I))))) = { (st4 p b (st3 p b (st2 p b (st1 p b I)))) with rm := (fld b 12 3 : Int) }) := st5_t p b _ hh
      refine (field_12_3 b hb _).mono ?_; rintro e w9 ⟨rfl, hb9⟩
      have hcell9 : w9.cell? ⟨B, 5, none⟩ = some (.int .i64 ((st4 p b (st3 p b (st2 p b (st1 p b I))))).rm) := by rw [(bcell hb9).1 B 5 hz4]; exact hcell
      have hfro9 : w9.frozen? ⟨B, 5, none⟩ = false := by rw [(bcell hb9).2 B 5 hz4]; exact hfro
      have hz9 := hb9.size
      go_wp2_with fail
      go_meet
      
      refine ⟨?_, ?_, ?_⟩
      · rw [HE.out]; exact set_rm _ (atI_below hI4.out hb9 hz4)
      · exact Below.setCell (below_step hb9 hbc4 (Nat.le_of_lt hz4)) (Nat.le_refl B) _
      · rw [sz_set]; omega
    · have hh : has p 16 = false := by assumption
      go_meet
      
      have e : (st5 p b (st4 p b (st3 p b (st2 p b (st1 p b I))))) = (st4 p b (st3 p b (st2 p b (st1 p b I)))) := st5_f p b _ hh
      refine ⟨?_, hbc4, hz4⟩
      rw [e]; exact hI4.out
  case rest =>
  obtain ⟨hI5', hbc5, hz5⟩ := hcut
  have hI5 : Hid (AtI wc B (st5 p b (st4 p b (st3 p b (st2 p b (st1 p b I)))))) := hI5'
  clear hI5'
  clear t0 t1 t2 t3 t4
  have hcell : wc.cell? ⟨B, 6, none⟩ = some (.int .i64 ((st5 p b (st4 p b (st3 p b (st2 p b (st1 p b I)))))).csr) := hI5.out.1 6
  have hfro : wc.frozen? ⟨B, 6, none⟩ = false := hI5.out.2 6
  have ew := wr_20_12 b
  go_wp2_with fail
  · have hh : has p 32 = true := by assumption
    have HE : Hid ((st6 p b (st5 p b (st4 p b (st3 p b (st2 p b (st1 p b I)))))) = { (st5 p b (st4 p b (st3 p b (st2 p b (st1 p b I))))) with csr := (fld b 20 12 : Int) }) := st6_t p b _ hh
    refine (field_20_12 b hb _).mono ?_; rintro e w9 ⟨rfl, hb9⟩
    have hcell9 : w9.cell? ⟨B, 6, none⟩ = some (.int .i64 ((st5 p b (st4 p b (st3 p b (st2 p b (st1 p b I)))))).csr) := by rw [(bcell hb9).1 B 6 hz5]; exact hcell
    have hfro9 : w9.frozen? ⟨B, 6, none⟩ = false := by rw [(bcell hb9).2 B 6 hz5]; exact hfro
    have hz9 := hb9.size
    go_wp2_with fail
    first | (refine bodyPost_ret (results_none rfl _ _ _) rfl ?_) | (refine bodyPost_end (results_none rfl _ _ _) rfl ?_)
    refine ⟨rfl, ?_⟩
    refine ⟨?_, ?_, ?_⟩
    · rw [HE.out]; exact set_csr _ (atI_below hI5.out hb9 hz5)
    · exact Below.setCell (below_step hb9 hbc5 (Nat.le_of_lt hz5)) (Nat.le_refl B) _
    · rw [sz_set]; omega
  · have hh : has p 32 = false := by assumption
    first | (refine bodyPost_ret (results_none rfl _ _ _) rfl ?_) | (refine bodyPost_end (results_none rfl _ _ _) rfl ?_)
    refine ⟨rfl, ?_⟩
    have e : (st6 p b (st5 p b (st4 p b (st3 p b (st2 p b (st1 p b I)))))) = (st5 p b (st4 p b (st3 p b (st2 p b (st1 p b I))))) := st6_f p b _ hh
    refine ⟨?_, hbc5, hz5⟩
    rw [e]; exact hI5.out
end Go.Proofs.Ytlohpakcikkdmaa
