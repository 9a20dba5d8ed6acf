/- The contract of readSizes. -/
import Derived.Test.YtlohpakcikkdmaaB3
namespace Go.Proofs.Ytlohpakcikkdmaa
open Go.ChangeShapes Go.WideShapes Go.ChangeAt Go.RowKit
set_option linter.unusedVariables false
set_option linter.unusedSimpArgs false
def zt1 (p b : Nat) (I : Ins) : Ins := { I with size := if has p 8192 then ((2 ^ fld b 12 2 : Nat) : Int) else I.size }
def zt2 (p b : Nat) (I : Ins) : Ins := { I with size := if has p 16384 then ((4 * 2 ^ fld b 25 1 : Nat) : Int) else I.size }
def zt3 (p b : Nat) (I : Ins) : Ins := { I with wo := if has p 32768 then decide (fld b 3 1 = 1) else I.wo }
def zt4 (p b : Nat) (I : Ins) : Ins := if has p 65536 then { I with wo := decide (fld b 21 1 = 0), un := decide (fld b 20 1 = 1) } else I
theorem atI_eq {w : World} {B : Nat} {I J : Ins} (h : AtI w B I) (e : J = I) : AtI w B J := by rw [e]; exact h
theorem fld1 (b f : Nat) : fld b f 1 = 0 ∨ fld b f 1 = 1 := by have := fld_lt b f 1; omega
theorem fld2 (b f : Nat) : fld b f 2 = 0 ∨ fld b f 2 = 1 ∨ fld b f 2 = 2 ∨ fld b f 2 = 3 := by have := fld_lt b f 2; omega
theorem sizes_c (p b : Nat) (hp : Hid (p < 4294967296)) (hb : Hid (b < 4294967296)) (I : Ins) (B : Nat) (w : World) (hB : B < w.heap.size) (hI : Hid (AtI w B I)) :
    Calls Try.prog 26 #[.pointer (some ⟨B, 0, none⟩), .int .u32 p, .int .u32 b] w (fun e w' => e = .returned (.tuple #[]) ∧ AtI w' B (zt4 p b (zt3 p b (zt2 p b (zt1 p b I)))) ∧ Below B w w' ∧ B < w'.heap.size) := by
  go_enter Try.func26, Try.ntmps26
  have t0 : (bits .and .u32 (p : Int) 8192 != 0) = has p 8192 := u32_has p 8192 hp (by decide)
  have t1 : (bits .and .u32 (p : Int) 16384 != 0) = has p 16384 := u32_has p 16384 hp (by decide)
  have t2 : (bits .and .u32 (p : Int) 32768 != 0) = has p 32768 := u32_has p 32768 hp (by decide)
  have t3 : (bits .and .u32 (p : Int) 65536 != 0) = has p 65536 := u32_has p 65536 hp (by decide)
  go_upto_if 8 with fail
  go_cut [] (fun wx => AtI wx B (zt1 p b I) ∧ Below B w wx ∧ B < wx.heap.size)
  case first =>
    clear t1 t2 t3
    have hcell : w.cell? ⟨B, 7, none⟩ = some (.int .i64 (I).size) := hI.out.1 7
    have hfro : w.frozen? ⟨B, 7, none⟩ = false := hI.out.2 7
    go_wp2_with fail
    · have hh : has p 8192 = true := by assumption
      rcases fld2 b 12 with hn | hn | hn | hn
      all_goals
        refine (field_12_2 b hb _).mono ?_; rintro e w9 ⟨rfl, hb9⟩
        have hcell9 : w9.cell? ⟨B, 7, none⟩ = some (.int .i64 (I).size) := by rw [(bcell hb9).1 B 7 hB]; exact hcell
        have hfro9 : w9.frozen? ⟨B, 7, none⟩ = false := by rw [(bcell hb9).2 B 7 hB]; exact hfro
        have hz9 := hb9.size
        go_wp2_with fail
        go_meet
        refine ⟨?_, ?_, ?_⟩
        · exact atI_eq (set_size _ (atI_below hI.out hb9 hB)) (by unfold zt1; rw [hh, hn]; rfl)
        · exact Below.setCell (below_step hb9 (Below.refl _ _) (Nat.le_of_lt hB)) (Nat.le_refl B) _
        · rw [sz_set]; omega
    · have hh : has p 8192 = false := by assumption
      go_meet
      have e : (zt1 p b I) = I := by unfold zt1; rw [hh]; rfl
      refine ⟨?_, (Below.refl _ _), hB⟩
      rw [e]; exact hI.out
  case rest =>
  obtain ⟨hI1', hbc1, hz1⟩ := hcut
  have hI1 : Hid (AtI wc B (zt1 p b I)) := hI1'
  clear hI1'
  go_upto_if 17 with fail
  go_cut [] (fun wx => AtI wx B (zt2 p b (zt1 p b I)) ∧ Below B w wx ∧ B < wx.heap.size)
  case first =>
    clear t0 t2 t3
    have hcell : wc.cell? ⟨B, 7, none⟩ = some (.int .i64 ((zt1 p b I)).size) := hI1.out.1 7
    have hfro : wc.frozen? ⟨B, 7, none⟩ = false := hI1.out.2 7
    go_wp2_with fail
    · have hh : has p 16384 = true := by assumption
      rcases fld1 b 25 with hn | hn
      all_goals
        refine (field_25_1 b hb _).mono ?_; rintro e w9 ⟨rfl, hb9⟩
        have hcell9 : w9.cell? ⟨B, 7, none⟩ = some (.int .i64 ((zt1 p b I)).size) := by rw [(bcell hb9).1 B 7 hz1]; exact hcell
        have hfro9 : w9.frozen? ⟨B, 7, none⟩ = false := by rw [(bcell hb9).2 B 7 hz1]; exact hfro
        have hz9 := hb9.size
        go_wp2_with fail
        go_meet
        refine ⟨?_, ?_, ?_⟩
        · exact atI_eq (set_size _ (atI_below hI1.out hb9 hz1)) (by unfold zt2; rw [hh, hn]; rfl)
        · exact Below.setCell (below_step hb9 hbc1 (Nat.le_of_lt hz1)) (Nat.le_refl B) _
        · rw [sz_set]; omega
    · have hh : has p 16384 = false := by assumption
      go_meet
      have e : (zt2 p b (zt1 p b I)) = (zt1 p b I) := by unfold zt2; rw [hh]; rfl
      refine ⟨?_, hbc1, hz1⟩
      rw [e]; exact hI1.out
  case rest =>
  obtain ⟨hI2', hbc2, hz2⟩ := hcut
  have hI2 : Hid (AtI wc B (zt2 p b (zt1 p b I))) := hI2'
  clear hI2'
  go_upto_if 26 with fail
  go_cut [] (fun wx => AtI wx B (zt3 p b (zt2 p b (zt1 p b I))) ∧ Below B w wx ∧ B < wx.heap.size)
  case first =>
    clear t0 t1 t3
    have hcell : wc.cell? ⟨B, 11, none⟩ = some (.bool ((zt2 p b (zt1 p b I))).wo) := hI2.out.1 11
    have hfro : wc.frozen? ⟨B, 11, none⟩ = false := hI2.out.2 11
    go_wp2_with fail
    · have hh : has p 32768 = true := by assumption
      rcases fld1 b 3 with hn | hn
      all_goals
        refine (field_3_1 b hb _).mono ?_; rintro e w9 ⟨rfl, hb9⟩
        have hcell9 : w9.cell? ⟨B, 11, none⟩ = some (.bool ((zt2 p b (zt1 p b I))).wo) := by rw [(bcell hb9).1 B 11 hz2]; exact hcell
        have hfro9 : w9.frozen? ⟨B, 11, none⟩ = false := by rw [(bcell hb9).2 B 11 hz2]; exact hfro
        have hz9 := hb9.size
        go_wp2_with fail
        go_meet
        refine ⟨?_, ?_, ?_⟩
        · exact atI_eq (set_wo _ (atI_below hI2.out hb9 hz2)) (by unfold zt3; rw [hh, hn]; rfl)
        · exact Below.setCell (below_step hb9 hbc2 (Nat.le_of_lt hz2)) (Nat.le_refl B) _
        · rw [sz_set]; omega
    · have hh : has p 32768 = false := by assumption
      go_meet
      have e : (zt3 p b (zt2 p b (zt1 p b I))) = (zt2 p b (zt1 p b I)) := by unfold zt3; rw [hh]; rfl
      refine ⟨?_, hbc2, hz2⟩
      rw [e]; exact hI2.out
  case rest =>
  obtain ⟨hI3', hbc3, hz3⟩ := hcut
  have hI3 : Hid (AtI wc B (zt3 p b (zt2 p b (zt1 p b I)))) := hI3'
  clear hI3'
  clear t0 t1 t2
  have hcell : wc.cell? ⟨B, 11, none⟩ = some (.bool ((zt3 p b (zt2 p b (zt1 p b I)))).wo) := hI3.out.1 11
  have hcellu : wc.cell? ⟨B, 10, none⟩ = some (.bool ((zt3 p b (zt2 p b (zt1 p b I)))).un) := hI3.out.1 10
  have hfro : wc.frozen? ⟨B, 11, none⟩ = false := hI3.out.2 11
  have hfrou : wc.frozen? ⟨B, 10, none⟩ = false := hI3.out.2 10
  go_wp2_with fail
  · have hh : has p 65536 = true := by assumption
    rcases fld1 b 21 with hn | hn
    all_goals
      refine (field_21_1 b hb _).mono ?_; rintro e w9 ⟨rfl, hb9⟩
      have hcell9 : w9.cell? ⟨B, 11, none⟩ = some (.bool ((zt3 p b (zt2 p b (zt1 p b I)))).wo) := by rw [(bcell hb9).1 B 11 hz3]; exact hcell
      have hfro9 : w9.frozen? ⟨B, 11, none⟩ = false := by rw [(bcell hb9).2 B 11 hz3]; exact hfro
      have hcell9u : w9.cell? ⟨B, 10, none⟩ = some (.bool ((zt3 p b (zt2 p b (zt1 p b I)))).un) := by rw [(bcell hb9).1 B 10 hz3]; exact hcellu
      have hfro9u : w9.frozen? ⟨B, 10, none⟩ = false := by rw [(bcell hb9).2 B 10 hz3]; exact hfrou
      have hz9 := hb9.size
      have AT9 := Lib.hid (atI_below hI3.out hb9 hz3)
      go_wp2_with fail
      rcases fld1 b 20 with hm | hm
      all_goals
        refine (field_20_1 b hb _).mono ?_; rintro e w8 ⟨rfl, hb8⟩
        have hz8 := hb8.size
        rw [sz_set] at hz8
        have hB8 : B < (w9.setCell ⟨B, 11, none⟩ (.bool (decide (fld b 21 1 = 0)))).heap.size := by rw [sz_set]; omega
        have AT8' := set_wo (decide (fld b 21 1 = 0)) AT9.out
        first
          | have AT8 := Lib.hid (atI_below AT8' hb8 (by rw [sz_set]; omega))
          | (rw [hn] at AT8'; have AT8 := Lib.hid (atI_below AT8' hb8 (by rw [sz_set]; omega)))
        clear AT8' hB8
        have hcell8 : w8.cell? ⟨B, 10, none⟩ = some (.bool ((zt3 p b (zt2 p b (zt1 p b I)))).un) := AT8.out.1 10
        have hfro8 : w8.frozen? ⟨B, 10, none⟩ = false := AT8.out.2 10
        go_wp2_with fail
        first | (refine bodyPost_ret (results_none rfl _ _ _) rfl ?_) | (refine bodyPost_end (results_none rfl _ _ _) rfl ?_)
        refine ⟨rfl, ?_⟩
        refine ⟨?_, ?_, ?_⟩
        · exact atI_eq (set_un _ AT8.out) (by unfold zt4; rw [hh, hn, hm]; rfl)
        · exact Below.setCell (below_step hb8 (Below.setCell (below_step hb9 hbc3 (Nat.le_of_lt hz3)) (Nat.le_refl B) _) (by rw [sz_set]; omega)) (Nat.le_refl B) _
        · rw [sz_set]; omega
  · have hh : has p 65536 = false := by assumption
    first | (refine bodyPost_ret (results_none rfl _ _ _) rfl ?_) | (refine bodyPost_end (results_none rfl _ _ _) rfl ?_)
    refine ⟨rfl, ?_⟩
    have e : zt4 p b (zt3 p b (zt2 p b (zt1 p b I))) = (zt3 p b (zt2 p b (zt1 p b I))) := by unfold zt4; rw [hh]; rfl
    refine ⟨?_, hbc3, hz3⟩
    rw [e]; exact hI3.out
theorem sizesF_eq (p b : Nat) (I : Ins) : zt4 p b (zt3 p b (zt2 p b (zt1 p b I))) = sizesF p b I := by
  unfold zt4 sizesF zt3 zt2 zt1
  cases has p 65536 <;> cases has p 32768 <;> cases has p 16384 <;> cases has p 8192 <;> rfl
theorem regsF_eq (p b : Nat) (I : Ins) : st6 p b (st5 p b (st4 p b (st3 p b (st2 p b (st1 p b I))))) = regsF p b I := rfl
end Go.Proofs.Ytlohpakcikkdmaa
